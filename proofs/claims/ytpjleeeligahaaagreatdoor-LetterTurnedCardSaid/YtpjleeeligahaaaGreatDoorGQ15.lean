/-
  WHAT IS PROVED: append of one element onto a row of the call's own, with what else stays: nothing turns but the row's own block. Over any program · package frame's Seal: what it answers, as the chapter says. Conditions: those typed in each theorem. · letter.Encode answers a good letter's bytes in their frame (encB), else ErrForm. Conditions: those typed in each theorem. · plain facts: what a frame is of, out of the sum of what stands ahead of its last four bytes and of these. No program is spoken of. · package wide's Take: the number that bytes are, of eight at most. Conditions: those typed in the theorem. · package frame's length: what they answer, as the chapter says. Conditions: those typed in each theorem. · bytes.Clone of Go's own text, where package frame calls it; package frame's unseal: what it answers, as the chapter says. Conditions: those typed in each theorem.
-/
import Derived.Test.YtpjleeeligahaaaGreatDoorGQ5
import Derived.Test.YtpjleeeligahaaaGreatDoorFastH
import Derived.Test.YtpjleeeligahaaaGreatDoorGQ14
import Derived.Deep.Cut
import Derived.Laws.MakeOwn
import Derived.Test.YtpjleeeligahaaaGreatDoorLtIns
import GoSem.Claim
import Derived.Test.YtpjleeeligahaaaGreatDoorGQ0
import Derived.Test.YtpjleeeligahaaaGreatDoorGQ2
import Derived.BigQuiet
import Derived.Deep.QuietTactic
namespace Go.Proofs.YtpjleeeligahaaaGreatDoor
open Go.RowKit

theorem run_apG {P : Program} (w : World) {t t' e' ty el : TypeId} {i : TypeInfo} {z y : Nat} {zv : Value} (ht : P.underlying t = some (.slice el)) (ht' : P.underlying t' = some (.slice e')) (hi : P.info? el = some i) (hz : i.zero = some zv) (hs : i.size = z) (hy : i.bytes = y) (hzs : zv.cells.size = z) (hz0 : 0 < z) (hy0 : y ≤ 1000)
    {base : Nat} {A : Option Addr} {ad : Addr} {n c d : Nat} {l : List (Array Value)} {x : Array Value} (hown : OwnX el z base w A n c l) (hx : x.size = z) (h1 : ∀ u ∈ x.toList, u.oneCell' = true) (hr : ∀ j v, x[j]? = some v → w.cell? (ad.add j) = some v) (hsz : n ≤ 1000000000) (hbase : base ≤ w.heap.size) :
    ∃ A' c' w', (Builtin.append_ #[t, t'] ty #[.slice A n c, .slice (some ad) 1 d]).run P w = .ok (.slice A' (n + 1) c') w' ∧ OwnX el z base w' A' (n + 1) c' (l ++ [x]) ∧ w.grownBy w' (A.map (·.block)) := by
  obtain ⟨v', w', hrun, h2, h3, _, _⟩ := run_append_own_at (P := P) w base t ty el i zv z y ht hi hz hs hy hzs hz0 (.slice A n c) n (celV l) hown.1 ad 1 d x.toList (by rw [Array.length_toList, hx, Nat.one_mul]) (fun j u hu => hr j u (by rw [← Array.getElem?_toList]; exact hu)) h1
    (by unfold maxLen; omega) (Nat.le_trans (Nat.mul_le_mul (show n + 1 ≤ 1000000001 by omega) hy0) (by omega)) hbase
  have hv : ∃ A' c', v' = .slice A' (n + 1) c' := by
    rcases h2.2 with ⟨_, e2⟩ | ⟨g, cap, cur, e1, _⟩
    · omega
    · exact ⟨_, _, e1⟩
  obtain ⟨A', c', rfl⟩ := hv
  refine ⟨A', c', w', by rw [run_append_tt w ht ht']; exact hrun, ⟨?_, ?_, ?_⟩, by cases A <;> exact h3⟩
  · rw [show celV (l ++ [x]) = celV l ++ x.toList by simp [celV]]
    exact h2
  · intro cs hc
    rcases List.mem_append.1 hc with h | h
    · exact hown.2.1 cs h
    · rw [List.mem_singleton.1 h]
      exact hx
  · rw [List.length_append, hown.2.2]
    rfl
/-! Two operations that may come up. -/
section
variable {P : Program} {l : List Oper} {Q : Exit → Act → World → Prop} {S : World → Prop} {fuel : Nat} {listed : Array Bool} {a0 : Act} {L : List (Nat × Bool × Value)} {w : World}
/-- An operation taken now, whatever it does. -/
def FHone (P : Program) (l : List Oper) (Q : Exit → Act → World → Prop) (S : World → Prop) (fuel : Nat) (listed : Array Bool) (a0 : Act) (L : List (Nat × Bool × Value)) (w : World) (i : Nat) : Prop :=
  (∀ p, p ∈ L → p.1 < a0.tmps.size) → wpOp P l.toArray Q i (fun a' w' => S w' ∧ wpAnyH P .any l.toArray Q S fuel (listed.setIfInBounds i true) a' w') (fr a0 L) w
theorem fh_two {i j : Nat} (hr : Region.ready .any l.toArray listed = [i, j]) (h1 : FHone P l Q S fuel listed a0 L w i) (h2 : FHone P l Q S fuel listed a0 L w j) : FH P l Q S (fuel + 1) listed a0 L w := by
  refine ⟨fun hk => wpAnyH_all hr (by simp) fun m hm => ?_⟩
  rcases List.mem_cons.1 hm with rfl | hm
  · exact h1 hk
  · have e : m = j := by simpa using hm
    subst e
    exact h2 hk
theorem one_valx {i : Nat} {oi : Oper} {d n : Nat} {v : Value} {w2 : World} (hn : a0.tmps.size = n) (ho : oi.dst = some d) (hx : (∀ p, p ∈ L → p.1 < a0.tmps.size) → (execOp (fr a0 L).eval oi).run P w = .ok (.value v) w2)
    (hS : S w2) (h : FH P l Q S fuel (listed.setIfInBounds i true) a0 ((d, true, v) :: L) w2) (hi : l.toArray[i]? = some oi) (hd : Nat.blt d n = true) (hw : wtG l L oi.guard = some true) : FHone P l Q S fuel listed a0 L w i := by
  intro hk
  unfold wpOp
  simp only [hi, wt_is hk hw, if_true]
  refine .inl ?_
  unfold Oper.wp
  rw [hx hk, Oper.upon_value, ho]
  exact ⟨hS, h.go (fun p hp => by
    rcases List.mem_cons.1 hp with e | e
    · rw [e, hn]; exact blt_lt hd
    · exact hk p e)⟩
end
theorem x_ap {P : Program} {w w2 : World} {i j : Nat} {ts : Array TypeId} {ty : TypeId} {d : Option Tmp} {p : String} {af : Array Edge} {gd : Option (Nat × Bool)} {ρ : Operand → Value} {vi vj v : Value} (h1 : ρ (.tmp i) = vi) (h2 : ρ (.tmp j) = vj) (hr : (Builtin.append_ ts ty #[vi, vj]).run P w = .ok v w2) :
    (execOp ρ ⟨d, .call { callee := .builtin .append, args := #[.tmp i, .tmp j], argTypes := ts }, ty, p, af, gd⟩).run P w = .ok (.value v) w2 := by
  unfold execOp
  simp only [resolve, invoke, builtin, Sem.run_bind, Sem.run_pure, Result.andThen_ok, List.map_toArray, List.map_cons, List.map_nil, h1, h2, hr]
theorem x_cp {P : Program} {w w2 : World} {i j : Nat} {ts : Array TypeId} {ty : TypeId} {d : Option Tmp} {p : String} {af : Array Edge} {gd : Option (Nat × Bool)} {ρ : Operand → Value} {vi vj v : Value} (h1 : ρ (.tmp i) = vi) (h2 : ρ (.tmp j) = vj) (hr : (Builtin.copy_ ts ty #[vi, vj]).run P w = .ok v w2) :
    (execOp ρ ⟨d, .call { callee := .builtin .copy, args := #[.tmp i, .tmp j], argTypes := ts }, ty, p, af, gd⟩).run P w = .ok (.value v) w2 := by
  unfold execOp
  simp only [resolve, invoke, builtin, Sem.run_bind, Sem.run_pure, Result.andThen_ok, List.map_toArray, List.map_cons, List.map_nil, h1, h2, hr]
end Go.Proofs.YtpjleeeligahaaaGreatDoor

namespace Go.Proofs.YtpjleeeligahaaaGreatDoor
open Go.RowKit

theorem run_make0 (W : World) (n : Nat) (z : Int) (hz : z = (n : Int)) (hn : n ≤ 1000000) :
    (Instr.makeSlice 23 (.int .i64 0) (.int .i64 z)).run Tryz.prog W = .ok (.slice (some ⟨W.heap.size, 0, none⟩) 0 n) (W.alloc (.cells (madeCells #[.int .u8 0] n) 5)) := by
  obtain ⟨i0, hi0, hz0, hz1, hz2⟩ := info_parts byt_info
  subst hz
  have h := run_make W 23 5 i0 (.int .u8 0) Tryz.underlying23 hi0 hz0 .i64 .i64 0 (n : Int) (by omega) (by omega) (by rw [hz2]; omega) (by omega)
  rw [Int.toNat_natCast, hz1, Nat.mul_one] at h
  exact h
/-- Three bytes of a number; four of them. -/
theorem wd_three {n : Nat} (h : n < 16777216) : wdB 3 n = [UInt8.ofNat (n / 65536), UInt8.ofNat (n / 256 % 256), UInt8.ofNat (n % 256)] := by
  show [UInt8.ofNat (n / 256 ^ 2 % 256), UInt8.ofNat (n / 256 ^ 1 % 256), UInt8.ofNat (n / 256 ^ 0 % 256)] = _
  rw [show n / 256 ^ 2 % 256 = n / 65536 by omega, show n / 256 ^ 1 % 256 = n / 256 % 256 by omega, show n / 256 ^ 0 % 256 = n % 256 by omega]
theorem wd_four {n : Nat} (h : n < 4294967296) : wdB 4 n = fourB n := by
  show [UInt8.ofNat (n / 256 ^ 3 % 256), UInt8.ofNat (n / 256 ^ 2 % 256), UInt8.ofNat (n / 256 ^ 1 % 256), UInt8.ofNat (n / 256 ^ 0 % 256)] = _
  unfold fourB
  rw [show n / 256 ^ 3 % 256 = n / 16777216 by omega, show n / 256 ^ 2 % 256 = n / 65536 % 256 by omega, show n / 256 ^ 1 % 256 = n / 256 % 256 by omega, show n / 256 ^ 0 % 256 = n % 256 by omega]
theorem ownMade0 (w : World) (n : Nat) (hn : n ≤ 1000000) : OwnB w.heap.size (w.alloc (.cells (madeCells #[.int .u8 0] n) 5)) (some ⟨w.heap.size, 0, none⟩) 0 n [] := by
  refine ⟨rfl, .inr ⟨w.heap.size, n, madeCells #[.int .u8 0] n, rfl, Nat.le_refl _, ?_, Nat.zero_le _, by unfold maxLen; omega, ?_, rfl⟩⟩
  · exact blk_new w _ _
  · simp [madeCells]
section
variable {P : Program} {l : List Oper} {Q : Exit → Act → World → Prop} {S : World → Prop} {fuel : Nat} {listed : Array Bool} {a0 : Act} {L : List (Nat × Bool × Value)} {w : World}
theorem h_opF (k : Nat) {oi : Oper} {d n : Nat} {v : Value} (hn : a0.tmps.size = n) (hS : S w) (hr : ∀ W, S W → (∀ p, p ∈ L → p.1 < a0.tmps.size) → (execOp (fr a0 L).eval oi).run P W = .ok (.value v) W) (h : FH P l Q S fuel (listed.setIfInBounds k true) a0 ((d, true, v) :: L) w) (hi : l.toArray[k]? = some oi := by rfl) (ho : oi.dst = some d := by rfl) (hd : Nat.blt d n = true := by rfl) (hw : wtG l L oi.guard = some true := by rfl) (hs : Region.noSelect l.toArray = true := by kernel_rfl) (hf : Region.free .any l.toArray listed k = true := by kernel_rfl) (hr2 : (Region.ready .any l.toArray listed).contains k = true := by kernel_rfl) (hQ : ∀ c a w, Q (.panic c) (a.put oi.dst (cnd true v)) w → Q (.panic c) a w := by exact fun _ _ _ h => h) : FH P l Q S (fuel + 1) listed a0 L w :=
  fh_op k hn hS h ho hi hd hs hf hr2 hQ hw (fun hk _ w hw => hr w hw hk)
end
theorem x_cbF {P : Program} {w : World} {op : BinOp} {i : Nat} {t ty2 ty : TypeId} {d : Option Tmp} {p : String} {af : Array Edge} {gd : Option (Nat × Bool)} {ρ : Operand → Value} {c vi v : Value} (h : ρ (.tmp i) = vi) (hc : ρ (.const c) = c) (hr : ((do eqGuard op t (.const c) (.tmp i) c vi; binOp op t c vi) : Sem Value).run P w = .ok v w) : (execOp ρ ⟨d, .binOp op t (.const c) (.tmp i) ty2, ty, p, af, gd⟩).run P w = .ok (.value v) w := by
  unfold execOp
  dsimp only
  rw [hc, h, Sem.run_bind, hr]; rfl
theorem x_mk0 {w w2 : World} {ρ : Operand → Value} {d : Option Tmp} {i : Nat} {z : Int} {v : Value} {ty : TypeId} {p : String} {af : Array Edge} {gd : Option (Nat × Bool)} (h : ρ (.tmp i) = .int .i64 z) (hc : ρ (.const (.int .i64 0)) = .int .i64 0) (hr : (Instr.makeSlice 23 (.int .i64 0) (.int .i64 z)).run Tryz.prog w = .ok v w2) : (execOp ρ ⟨d, .makeSlice 23 (.const (.int .i64 0)) (.tmp i), ty, p, af, gd⟩).run Tryz.prog w = .ok (.value v) w2 := by
  unfold execOp
  simp only [h, hc, Sem.run_bind, hr, Sem.run_pure, Result.andThen_ok]
theorem bs2B (k : Int) (w : World) : (Instr.buildSlice 23 2 #[(0, .int .u8 229), (1, .int .u8 k)]).run Tryz.prog w = .ok (.slice (some ⟨w.heap.size, 0, none⟩) 2 2) (w.alloc (.cells #[.int .u8 229, .int .u8 k] 5)) := by kernel_rfl
theorem x_bs2 {w : World} {ρ : Operand → Value} {d : Option Tmp} {i : Nat} {k : Int} {ty : TypeId} {p : String} {af : Array Edge} {gd : Option (Nat × Bool)} (h : ρ (.tmp i) = .int .u8 k) (hc : ρ (.const (.int .u8 229)) = .int .u8 229) : (execOp ρ ⟨d, .buildSlice 23 2 #[(0, .const (.int .u8 229)), (1, .tmp i)], ty, p, af, gd⟩).run Tryz.prog w = .ok (.value (.slice (some ⟨w.heap.size, 0, none⟩) 2 2)) (w.alloc (.cells #[.int .u8 229, .int .u8 k] 5)) := by
  unfold execOp
  simp only [List.map_toArray, List.map_cons, List.map_nil, h, hc, Sem.run_bind, bs2B, Sem.run_pure, Result.andThen_ok]
theorem add_5 (i : Nat) (W : World) (n : Nat) (h : n ≤ 1000000) : ((do eqGuard .add 3 (.const (.int .i64 5)) (.tmp i) (.int .i64 5) (.int .i64 (n : Int)); binOp .add 3 (.int .i64 5) (.int .i64 (n : Int))) : Sem Value).run Tryz.prog W = .ok (.int .i64 (5 + (n : Int))) W := by
  have h1 : (n : Int) ≤ 1000000 := by omega
  go_simp
  rw [IntKind.wrap_i64]
  omega
theorem add_4 (i : Nat) (W : World) (n : Nat) (h : n ≤ 1000000) : ((do eqGuard .add 3 (.tmp i) (.const (.int .i64 4)) (.int .i64 (5 + (n : Int))) (.int .i64 4); binOp .add 3 (.int .i64 (5 + (n : Int))) (.int .i64 4)) : Sem Value).run Tryz.prog W = .ok (.int .i64 (5 + (n : Int) + 4)) W := by
  have h1 : (n : Int) ≤ 1000000 := by omega
  go_simp
  rw [IntKind.wrap_i64]
  omega
theorem bel_unF {b : Nat} {w w' : World} (h : Below b w.drew w') : Below b w w' := ⟨h.os, h.tape, h.output, h.size, h.block⟩
theorem fpc0 (W : World) (b : Nat) : (Instr.fieldAt 99 (.pointer (some ⟨b, 0, none⟩)) 0).run Tryz.prog W = .ok (.pointer (some ⟨b, 0, none⟩)) W := by kernel_rfl
theorem fpc1 (W : World) (b : Nat) : (Instr.fieldAt 99 (.pointer (some ⟨b, 0, none⟩)) 1).run Tryz.prog W = .ok (.pointer (some ⟨b, 1, none⟩)) W := by kernel_rfl
theorem ld_u8 {W : World} {a : Addr} {x : Int} (h : W.cell? a = some (.int .u8 x)) : (Instr.loadAt 5 (.pointer (some a))).run Tryz.prog W = .ok (.int .u8 x) W := by go_simp
set_option maxRecDepth 100000 in
set_option maxHeartbeats 4000000 in
theorem seal_any (k : UInt8) (A : Option Addr) (n c : Nat) (bb : List UInt8) (w : World) (hL : LaidF w) (hn : bb.length = n) (hm : n ≤ 100000) (hr : RdB w.heap.size w A bb) :
    Calls Tryz.prog 47 #[.agg #[.int .u8 (k.toNat : Int), .slice A n c]] w fun e w' => (∃ (A' : Option Addr) (c' : Nat), e = .returned (.tuple #[.slice A' (n + 9) c', .int .i64 0]) ∧ OwnB w.heap.size w' A' (n + 9) c' (sealL k bb)) ∧ Below w.heap.size w w' := by
  obtain ⟨i0, hi0, hz0, hz1_, hz2⟩ := info_parts byt_info
  have HN := Lib.hid hn
  have g1 : (n : Int) ≤ 100000 := by omega
  have g2 : ¬ (100000 : Int) < (n : Int) := by omega
  have hB1 := b0 w (.cells #[.int .u8 (k.toNat : Int), .slice A n c] 99)
  have hX0 := blk_new w #[.int .u8 (k.toNat : Int), .slice A n c] 99
  have hR1 := hr.keep hB1 (Nat.le_refl _)
  have hk := k.toNat_lt
  have hz1 : (w.alloc (.cells #[.int .u8 (k.toNat : Int), .slice A n c] 99)).heap.size = w.heap.size + 1 := by simp
  have HBY : Hid ([229, k] ++ wdB 3 n ++ bb = bodyL k bb) := by show _ = _; rw [wd_three (by omega)]; unfold bodyL; rw [HN.out]; rfl
  have mk := fun W => run_make0 W (n + 9) (5 + (n : Int) + 4) (by omega) (by omega)
  have c1 : (w.alloc (.cells #[.int .u8 (k.toNat : Int), .slice A n c] 99)).cell? ⟨w.heap.size, 1, none⟩ = some (.slice A n c) := hX0.cell 1
  clear hn hr
  go_enter Tryz.func47, Tryz.ntmps47
  go_upto_region 4 with fail
  clear c1
  generalize w.alloc (.cells #[.int .u8 (k.toNat : Int), .slice A n c] 99) = W0 at hB1 hX0 hR1 hz1 ⊢
  generalize hb : w.heap.size = b at hB1 hX0 hR1 hz1 ⊢
  have f0 : ∀ W, (fun W => Blk W b #[.int .u8 (k.toNat : Int), .slice A n c] 99) W → _ := fun W _ => fpc0 W b
  have l0 : ∀ W, (fun W => Blk W b #[.int .u8 (k.toNat : Int), .slice A n c] 99) W → _ := fun W h => ld_u8 (h.cell 0)
  refine fh_start (S := (fun W => Blk W b #[.int .u8 (k.toNat : Int), .slice A n c] 99)) (by kernel_rfl) (hX0) (fun hS => ?_)
  generalize ha : Act.mk _ _ = a0
  have hn : a0.tmps.size = 36 := by rw [← ha]; kernel_rfl
  have h1 : (fr a0 []).eval (.tmp 1) = .pointer (some ⟨b, 0, none⟩) := by rw [← ha]; kernel_rfl
  refine fh_know hn rfl h1 ?_
  clear h1
  have h4 : (fr a0 [(1, true, .pointer (some ⟨b, 0, none⟩))]).eval (.tmp 4) = .int .i64 (n : Int) := by rw [← ha]; kernel_rfl
  refine fh_know hn rfl h4 ?_
  clear h4
  refine h_mv 0 hn hS ?_
  refine h_opF 1 hn hS (fun W _ hk => x_cbF (lk_at hk (i := 15) rfl (fun _ => rfl) rfl) rfl (add_5 _ W n (by omega))) ?_
  refine h_bc 2 hn hS ?_ (hx := fun W _ => add_4 _ W n (by omega))
  refine h_fd 4 hn hS ?_
  refine h_ld 5 hn hS ?_
  have hwd : W0.drew.heap.size = b + 1 := hz1
  refine fh_two (i := 3) (j := 6) (by kernel_rfl) ?_ ?_
  · have ba := b0 W0.drew (.cells (madeCells #[.int .u8 0] (n + 9)) 5)
    have hOm1 := ownMade0 W0.drew (n + 9) (by omega)
    have hXa : (fun W => Blk W b #[.int .u8 (k.toNat : Int), .slice A n c] 99) (W0.drew.alloc (.cells (madeCells #[.int .u8 0] (n + 9)) 5)) := hS.keep ba
    refine one_valx (d := 18) hn rfl (fun hk => x_mk0 (lk_at hk (i := 17) rfl (fun _ => rfl) rfl) rfl (mk _)) hXa ?_ rfl rfl rfl
    rw [hwd] at hOm1 ba ⊢
    generalize W0.drew.alloc (.cells (madeCells #[.int .u8 0] (n + 9)) 5) = v1 at hOm1 ba hXa ⊢
    have bb2 := b0 v1 (.cells #[.int .u8 229, .int .u8 (k.toNat : Int)] 5)
    have hz2' := ba.size
    have hX2 : (fun W => Blk W b #[.int .u8 (k.toNat : Int), .slice A n c] 99) (v1.alloc (.cells #[.int .u8 229, .int .u8 (k.toNat : Int)] 5)) := hXa.keep bb2
    refine fh_valx 6 (d := 21) hn rfl (fun hk => x_bs2 (lk_at hk (i := 20) rfl (fun _ => rfl) rfl) rfl) hX2 ?_ rfl rfl (by kernel_rfl) rfl
    have hOl := (OwnB.lit v1 (base := b + 1) #[.int .u8 229, .int .u8 (k.toNat : Int)] [229, k] rfl (n := 2) rfl (by omega) (by unfold maxLen; omega)).rd
    have hOm := hOm1.keep bb2
    have hbs : b + 1 ≤ (v1.alloc (.cells #[.int .u8 229, .int .u8 (k.toNat : Int)] 5)).heap.size := by have := bb2.size; omega
    have hb02 : Below (b + 1) W0 (v1.alloc (.cells #[.int .u8 229, .int .u8 (k.toNat : Int)] 5)) := (bel_unF ba).trans (bb2.mono (by omega))
    generalize v1.heap.size = g3 at hOl ⊢
    generalize v1.alloc (.cells #[.int .u8 229, .int .u8 (k.toNat : Int)] 5) = v2 at hOl hOm hbs hb02 hX2 ⊢
    clear hOm1 bb2 ba hXa
    have hO3 : OwnB (b + 1) v2 (some ⟨b + 1, 0, none⟩) 0 (n + 9) [] := hOm
    have hOl3 : RdB v2.heap.size v2 (some ⟨g3, 0, none⟩) [229, k] := hOl
    obtain ⟨A5, c5, w5, hr5, hO5, hb5, _⟩ := run_apB (P := Tryz.prog) (ty := 23) (base := b + 1) (n := 0) (m := 2) (d := 2) v2 Tryz.underlying23 Tryz.underlying23 hi0 hz0 hz1_ hz2 hO3 hOl3 rfl (by omega) hbs
    have hX5 : (fun W => Blk W b #[.int .u8 (k.toNat : Int), .slice A n c] 99) w5 := (hb5.block b (by omega)).trans hX2
    refine fh_valx 7 (d := 22) hn rfl (fun hk => x_ap (lk_at hk (i := 18) rfl (fun _ => rfl) rfl) (lk_at hk (i := 21) rfl (fun _ => rfl) rfl) hr5) hX5 ?_ rfl rfl (by kernel_rfl) rfl
    refine h_as 8 hn hX5 ?_
    refine fh_end (by kernel_rfl) ?_
    clear hn
    subst ha
    dsimp only [fr, cnd, Act.put, cond_true]
    simp only [List.setIfInBounds_toArray, List.set_cons_zero, List.set_cons_succ]
    rw [List.nil_append] at hO5
    have hb35 := hb02.trans hb5
    have z5 := hb35.size
    clear hOm hOl hO3 hOl3 hr5 hX2 hb02 hb5 f0 l0
    go_wp2_with fail
    refine (widePut_any (b + 1) A5 2 c5 [229, k] n 3 w5 (.inl hO5) (by omega) (by omega) (by omega) (by omega) (by omega)).mono ?_
    rintro e w5b ⟨⟨A5b, n5, c5b, rfl, hO5b⟩, hb5b, -⟩
    have hn5 : n5 = 5 := by have := hO5b.len; simp [wdB_len] at this; omega
    subst hn5
    have hX5b : Blk w5b b #[.int .u8 (k.toNat : Int), .slice A n c] 99 := (hb5b.block b (by omega)).trans hX5
    have hb35b := hb35.trans hb5b
    have p1 : w5b.cell? ⟨b, 1, none⟩ = some (.slice A n c) := hX5b.cell 1
    have hR5 := hR1.keep hb35b (by omega)
    have z5b := hb35b.size
    clear hO5 hb5b hb35 hX5 z5
    go_wp2_with (at_builtin; refine wpList_apB (base := b + 1) (n := 5) (m := n) (l := [229, k] ++ wdB 3 n) (l2 := bb) (by rfl) _ _ (by rfl) Tryz.underlying23 Tryz.underlying23 hi0 hz0 hz1_ hz2 (by rfl) (by rfl) hO5b hR5 HN.out (n + 5) (by omega) (by omega) (by omega) ?_; intro A6 c6 w6 hO6 hb6 hg6)
    rw [HBY.out] at hO6
    have hb36 := hb35b.trans hb6
    have hB6 : Below b w w6 := hB1.trans (hb36.mono (by omega))
    clear hg6 hO5b hb6 hX5b
    subst hb
    refine (sum_any A6 (n + 5) c6 (bodyL k bb) w6 (hL.keep hB6) hO6.len hO6.rd (by omega)).mono ?_
    rintro e w7 ⟨rfl, rfl⟩
    have hcs := crcL_lt (bodyL k bb)
    generalize hcc : crcL (bodyL k bb) = cs at hcs ⊢
    have HCC := Lib.hid hcc
    clear hcc
    have hcs' : (cs : Int) < 4294967296 := by omega
    have ew : IntKind.u64.wrap (cs : Int) = (cs : Int) := by rw [IntKind.wrap_u64]; omega
    go_wp2_with fail
    try rw [ew]
    refine (widePut_any w.heap.size A6 (n + 5) c6 (bodyL k bb) cs 4 w6 (.inl (hO6.less (by omega))) (by have := hB6.size; omega) (by omega) (by omega) (by omega) (by omega)).mono ?_
    rintro e w8 ⟨⟨A8, n8, c8, rfl, hO8⟩, hb8, -⟩
    have hn8 : n8 = n + 9 := by have := hO8.len; rw [List.length_append, bodyL_len, wdB_len, HN.out] at this; omega
    subst hn8
    rw [wd_four hcs] at hO8
    go_wp2_with fail
    go_ret2
    refine ⟨⟨A8, c8, rfl, ?_⟩, hB6.trans hb8⟩
    unfold sealL
    rw [HCC.out]
    exact hO8
  · have ba := b0 W0.drew (.cells #[.int .u8 229, .int .u8 (k.toNat : Int)] 5)
    have hOl1 := (OwnB.lit W0.drew (base := b + 1) #[.int .u8 229, .int .u8 (k.toNat : Int)] [229, k] rfl (n := 2) rfl (by omega) (by unfold maxLen; omega)).rd
    have hXa : (fun W => Blk W b #[.int .u8 (k.toNat : Int), .slice A n c] 99) (W0.drew.alloc (.cells #[.int .u8 229, .int .u8 (k.toNat : Int)] 5)) := hS.keep ba
    refine one_valx (d := 21) hn rfl (fun hk => x_bs2 (lk_at hk (i := 20) rfl (fun _ => rfl) rfl) rfl) hXa ?_ rfl rfl rfl
    rw [hwd] at hOl1 ba ⊢
    generalize W0.drew.alloc (.cells #[.int .u8 229, .int .u8 (k.toNat : Int)] 5) = v1 at hOl1 ba hXa ⊢
    have bb2 := b0 v1 (.cells (madeCells #[.int .u8 0] (n + 9)) 5)
    have hz2' := ba.size
    have hX2 : (fun W => Blk W b #[.int .u8 (k.toNat : Int), .slice A n c] 99) (v1.alloc (.cells (madeCells #[.int .u8 0] (n + 9)) 5)) := hXa.keep bb2
    refine fh_valx 3 (d := 18) hn rfl (fun hk => x_mk0 (lk_at hk (i := 17) rfl (fun _ => rfl) rfl) rfl (mk _)) hX2 ?_ rfl rfl (by kernel_rfl) rfl
    have hOm := (ownMade0 v1 (n + 9) (by omega)).less (b2 := b + 1) (by omega)
    have hOl := (hOl1.keep bb2 (Nat.le_refl _)).more bb2.size
    have hbs : b + 1 ≤ (v1.alloc (.cells (madeCells #[.int .u8 0] (n + 9)) 5)).heap.size := by have := bb2.size; omega
    have hb02 : Below (b + 1) W0 (v1.alloc (.cells (madeCells #[.int .u8 0] (n + 9)) 5)) := (bel_unF ba).trans (bb2.mono (by omega))
    generalize v1.heap.size = g3 at hOm ⊢
    generalize v1.alloc (.cells (madeCells #[.int .u8 0] (n + 9)) 5) = v2 at hOl hOm hbs hb02 hX2 ⊢
    clear hOl1 bb2 ba hXa
    have hO3 : OwnB (b + 1) v2 (some ⟨g3, 0, none⟩) 0 (n + 9) [] := hOm
    have hOl3 : RdB v2.heap.size v2 (some ⟨b + 1, 0, none⟩) [229, k] := hOl
    obtain ⟨A5, c5, w5, hr5, hO5, hb5, _⟩ := run_apB (P := Tryz.prog) (ty := 23) (base := b + 1) (n := 0) (m := 2) (d := 2) v2 Tryz.underlying23 Tryz.underlying23 hi0 hz0 hz1_ hz2 hO3 hOl3 rfl (by omega) hbs
    have hX5 : (fun W => Blk W b #[.int .u8 (k.toNat : Int), .slice A n c] 99) w5 := (hb5.block b (by omega)).trans hX2
    refine fh_valx 7 (d := 22) hn rfl (fun hk => x_ap (lk_at hk (i := 18) rfl (fun _ => rfl) rfl) (lk_at hk (i := 21) rfl (fun _ => rfl) rfl) hr5) hX5 ?_ rfl rfl (by kernel_rfl) rfl
    refine h_as 8 hn hX5 ?_
    refine fh_end (by kernel_rfl) ?_
    clear hn
    subst ha
    dsimp only [fr, cnd, Act.put, cond_true]
    simp only [List.setIfInBounds_toArray, List.set_cons_zero, List.set_cons_succ]
    rw [List.nil_append] at hO5
    have hb35 := hb02.trans hb5
    have z5 := hb35.size
    clear hOm hOl hO3 hOl3 hr5 hX2 hb02 hb5 f0 l0
    go_wp2_with fail
    refine (widePut_any (b + 1) A5 2 c5 [229, k] n 3 w5 (.inl hO5) (by omega) (by omega) (by omega) (by omega) (by omega)).mono ?_
    rintro e w5b ⟨⟨A5b, n5, c5b, rfl, hO5b⟩, hb5b, -⟩
    have hn5 : n5 = 5 := by have := hO5b.len; simp [wdB_len] at this; omega
    subst hn5
    have hX5b : Blk w5b b #[.int .u8 (k.toNat : Int), .slice A n c] 99 := (hb5b.block b (by omega)).trans hX5
    have hb35b := hb35.trans hb5b
    have p1 : w5b.cell? ⟨b, 1, none⟩ = some (.slice A n c) := hX5b.cell 1
    have hR5 := hR1.keep hb35b (by omega)
    have z5b := hb35b.size
    clear hO5 hb5b hb35 hX5 z5
    go_wp2_with (at_builtin; refine wpList_apB (base := b + 1) (n := 5) (m := n) (l := [229, k] ++ wdB 3 n) (l2 := bb) (by rfl) _ _ (by rfl) Tryz.underlying23 Tryz.underlying23 hi0 hz0 hz1_ hz2 (by rfl) (by rfl) hO5b hR5 HN.out (n + 5) (by omega) (by omega) (by omega) ?_; intro A6 c6 w6 hO6 hb6 hg6)
    rw [HBY.out] at hO6
    have hb36 := hb35b.trans hb6
    have hB6 : Below b w w6 := hB1.trans (hb36.mono (by omega))
    clear hg6 hO5b hb6 hX5b
    subst hb
    refine (sum_any A6 (n + 5) c6 (bodyL k bb) w6 (hL.keep hB6) hO6.len hO6.rd (by omega)).mono ?_
    rintro e w7 ⟨rfl, rfl⟩
    have hcs := crcL_lt (bodyL k bb)
    generalize hcc : crcL (bodyL k bb) = cs at hcs ⊢
    have HCC := Lib.hid hcc
    clear hcc
    have hcs' : (cs : Int) < 4294967296 := by omega
    have ew : IntKind.u64.wrap (cs : Int) = (cs : Int) := by rw [IntKind.wrap_u64]; omega
    go_wp2_with fail
    try rw [ew]
    refine (widePut_any w.heap.size A6 (n + 5) c6 (bodyL k bb) cs 4 w6 (.inl (hO6.less (by omega))) (by have := hB6.size; omega) (by omega) (by omega) (by omega) (by omega)).mono ?_
    rintro e w8 ⟨⟨A8, n8, c8, rfl, hO8⟩, hb8, -⟩
    have hn8 : n8 = n + 9 := by have := hO8.len; rw [List.length_append, bodyL_len, wdB_len, HN.out] at this; omega
    subst hn8
    rw [wd_four hcs] at hO8
    go_wp2_with fail
    go_ret2
    refine ⟨⟨A8, c8, rfl, ?_⟩, hB6.trans hb8⟩
    unfold sealL
    rw [HCC.out]
    exact hO8
set_option maxRecDepth 100000 in
set_option maxHeartbeats 2000000 in
theorem full_any (k : UInt8) (A : Option Addr) (n c : Nat) (w : World) (hL : LaidF w) (hm : 100000 < n) (hm2 : n ≤ 200000) :
    Calls Tryz.prog 47 #[.agg #[.int .u8 (k.toNat : Int), .slice A n c]] w fun e w' => e = .returned (.tuple #[.slice none 0 0, .int .i64 3]) ∧ Below w.heap.size w w' := by
  have g1 : (100000 : Int) < (n : Int) := by omega
  have hB1 := b0 w (.cells #[.int .u8 (k.toNat : Int), .slice A n c] 99)
  have HA := Lib.hid (fun W (h : Below w.heap.size w W) v m (hv : ErrF v m) => fanswer_any v m W (hL.keep h) hv)
  have HV : Hid (ErrF (.iface 139 (.agg #[.int .i64 (n : Nat), .int .i64 3])) 3) := .inr (.inr ⟨_, rfl⟩)
  go_enter Tryz.func47, Tryz.ntmps47
  go_wp2_with fail
  refine (HA.out _ hB1 _ 3 HV.out).mono ?_
  rintro e w4 ⟨rfl, hb4⟩
  have hB4 := bt hB1 hb4
  go_wp2_with fail
  go_ret2
  exact ⟨rfl, hB4⟩
end Go.Proofs.YtpjleeeligahaaaGreatDoor

namespace Go.Proofs.YtpjleeeligahaaaGreatDoor
open Go.RowKit

/-- A letter's bytes. -/
def encB (x : Lt) : List UInt8 := sealL (UInt8.ofNat x.k.toNat) (insB x)
def EnR (w : World) (x : Lt) (v : Value) (w' : World) : Prop := ∃ (A : Option Addr) (n c : Nat), v = .tuple #[.slice A n c, .int .i64 0] ∧ OwnB w.heap.size w' A n c (encB x) ∧ Below w.heap.size w w'
theorem enters_fSeal : ∀ args w, (callFunc 47 args).run Tryz.prog w = .ok (.enter 47 args) w := enters_of Tryz.func47 (by kernel_rfl) rfl
theorem enters_ltGood : ∀ args w, (callFunc 17 args).run Tryz.prog w = .ok (.enter 17 args) w := enters_of Tryz.func17 (by kernel_rfl) rfl
theorem enters_Encode : ∀ args w, (callFunc 19 args).run Tryz.prog w = .ok (.enter 19 args) w := enters_of Tryz.func19 (by kernel_rfl) rfl

theorem good_kind {x : Lt} (h : goodLt x = true) : 1 ≤ x.k ∧ x.k ≤ 4 := by
  unfold goodLt at h
  simp only [Bool.and_eq_true] at h
  have := kind_4 h.1.1.1.1
  omega
set_option maxRecDepth 100000 in
set_option maxHeartbeats 4000000 in
theorem encode_bad {B : Nat} (x : Lt) (h : Hn) (w : World) (hr : LtR B w x h) (hrB : B ≤ w.heap.size) (hf : LtF x) (hg : goodLt x = false) : Calls Tryz.prog 19 #[.agg (ltI x h)] w fun e w' => e = .returned (.tuple #[.slice none 0 0, .int .i64 2]) ∧ Below w.heap.size w w' := by
  go_enter Tryz.func19, Tryz.ntmps19
  go_upto_region 1 with fail
  have hX := blk_new w (ltI x h) 58
  have hB := b0 w (.cells (ltI x h) 58)
  have hR := hr.keep hB hrB
  generalize w.alloc (.cells (ltI x h) 58) = W at hX hB hR ⊢
  generalize hb : w.heap.size = b at hX hB ⊢
  have HX := Lib.hid hX
  have HR := Lib.hid hR
  have HF := Lib.hid hf
  have HBB := Lib.hid (Nat.le_trans hrB (Nat.le_of_eq hb))
  clear hX hR hr hf
  refine wp_region_lit ?_
  refine fl_start ?_
  generalize ha : Act.mk _ _ = a0
  have hn : a0.tmps.size = 16 := by rw [← ha]; kernel_rfl
  have h1 : (fr a0 []).eval (.tmp 1) = .pointer (some ⟨b, 0, none⟩) := by rw [← ha]; kernel_rfl
  refine fl_know hn rfl h1 ?_
  clear h1
  repeat first | refine g_mv hn ?_ | refine g_as hn ?_ | refine g_fdL hn ?_ | refine g_ldL hn HX.out ?_ | refine g_ldA hn HX.out ?_ | refine g_fd hn ?_ | refine g_ld hn ?_ | refine g_nc hn ?_ | refine g_nt hn ?_ | refine g_an hn ?_ | refine g_or hn ?_ | refine g_ln hn ?_ | refine g_ex hn ?_ | refine g_neq2 hn ?_ | refine g_neq hn ?_ | refine g_eql2 hn ?_ | refine g_eql hn ?_ | refine g_leq2 hn ?_ | refine g_leq hn ?_ | refine g_lss2 hn ?_ | refine g_lss hn ?_ | refine g_gtr2 hn ?_ | refine g_gtr hn ?_ | refine g_geq2 hn ?_ | refine g_geq hn ?_ | refine g_b0 hn ?_ | refine g_bn hn ?_ | refine g_bc hn ?_ | refine g_cv hn ?_ | refine g_ac hn ?_ | refine g_mc hn ?_
  refine g_c1w enters_ltGood hn (ltGood_any x h _ HR.out (Nat.le_trans HBB.out (Nat.le_of_lt HX.out.lt)) HF.out) ?_
  intro w2 hb2
  rw [hg]
  repeat first | refine g_mv hn ?_ | refine g_as hn ?_ | refine g_fdL hn ?_ | refine g_ldL hn HX.out ?_ | refine g_ldA hn HX.out ?_ | refine g_fd hn ?_ | refine g_ld hn ?_ | refine g_nc hn ?_ | refine g_nt hn ?_ | refine g_an hn ?_ | refine g_or hn ?_ | refine g_ln hn ?_ | refine g_ex hn ?_ | refine g_neq2 hn ?_ | refine g_neq hn ?_ | refine g_eql2 hn ?_ | refine g_eql hn ?_ | refine g_leq2 hn ?_ | refine g_leq hn ?_ | refine g_lss2 hn ?_ | refine g_lss hn ?_ | refine g_gtr2 hn ?_ | refine g_gtr hn ?_ | refine g_geq2 hn ?_ | refine g_geq hn ?_ | refine g_b0 hn ?_ | refine g_bn hn ?_ | refine g_bc hn ?_ | refine g_cv hn ?_ | refine g_ac hn ?_ | refine g_mc hn ?_
  refine fl_end ?_
  clear hn
  subst ha
  dsimp only [fr, cnd, Act.put, cond_true]
  simp only [List.setIfInBounds_toArray, List.set_cons_zero, List.set_cons_succ, Bool.not_false]
  go_wp2_with fail
  go_ret2
  exact ⟨rfl, by rw [hb]; exact bnx hB HX.out hb2⟩
set_option maxRecDepth 100000 in
set_option maxHeartbeats 4000000 in
theorem encode_good {B : Nat} (x : Lt) (h : Hn) (w : World) (hr : LtR B w x h) (hrB : B ≤ w.heap.size) (hf : LtF x) (hg : goodLt x = true) (hs : LtS x) (hL : LaidF w) : Calls Tryz.prog 19 #[.agg (ltI x h)] w fun e w' => ∃ v, e = .returned v ∧ EnR w x v w' := by
  have HG := Lib.hid hg
  have HI := Lib.hid hs
  have hk := good_kind hg
  obtain ⟨k, hk0, hk1, hk2⟩ : ∃ k : Nat, x.k = (k : Int) ∧ 1 ≤ k ∧ k ≤ 4 := ⟨x.k.toNat, by omega, by omega, by omega⟩
  have HK : Hid (((UInt8.ofNat k).toNat : Int) = (k : Int) ∧ encB x = sealL (UInt8.ofNat k) (insB x)) := by
    refine ⟨of_small (by omega), ?_⟩
    unfold encB
    rw [hk0]
    rfl
  clear hg hs
  go_enter Tryz.func19, Tryz.ntmps19
  go_upto_region 1 with fail
  have hX := blk_new w (ltI x h) 58
  have hB := b0 w (.cells (ltI x h) 58)
  have hR := hr.keep hB hrB
  have hF := hL.keep hB
  generalize w.alloc (.cells (ltI x h) 58) = W at hX hB hR hF ⊢
  generalize hb : w.heap.size = b at hX hB ⊢
  have HX := Lib.hid hX
  have HR := Lib.hid hR
  have HF := Lib.hid hf
  have HL := Lib.hid hF
  have HBB := Lib.hid (Nat.le_trans hrB (Nat.le_of_eq hb))
  clear hX hR hr hf hF hL
  refine wp_region_lit ?_
  refine fl_start ?_
  generalize ha : Act.mk _ _ = a0
  have hn : a0.tmps.size = 16 := by rw [← ha]; kernel_rfl
  have h1 : (fr a0 []).eval (.tmp 1) = .pointer (some ⟨b, 0, none⟩) := by rw [← ha]; kernel_rfl
  refine fl_know hn rfl h1 ?_
  clear h1
  repeat first | refine g_mv hn ?_ | refine g_as hn ?_ | refine g_fdL hn ?_ | refine g_ldL hn HX.out ?_ | refine g_ldA hn HX.out ?_ | refine g_fd hn ?_ | refine g_ld hn ?_ | refine g_nc hn ?_ | refine g_nt hn ?_ | refine g_an hn ?_ | refine g_or hn ?_ | refine g_ln hn ?_ | refine g_ex hn ?_ | refine g_neq2 hn ?_ | refine g_neq hn ?_ | refine g_eql2 hn ?_ | refine g_eql hn ?_ | refine g_leq2 hn ?_ | refine g_leq hn ?_ | refine g_lss2 hn ?_ | refine g_lss hn ?_ | refine g_gtr2 hn ?_ | refine g_gtr hn ?_ | refine g_geq2 hn ?_ | refine g_geq hn ?_ | refine g_b0 hn ?_ | refine g_bn hn ?_ | refine g_bc hn ?_ | refine g_cv hn ?_ | refine g_ac hn ?_ | refine g_mc hn ?_
  refine g_c1w enters_ltGood hn (ltGood_any x h _ HR.out (Nat.le_trans HBB.out (Nat.le_of_lt HX.out.lt)) HF.out) ?_
  intro w2 hb2
  rw [HG.out]
  repeat first | refine g_mv hn ?_ | refine g_as hn ?_ | refine g_fdL hn ?_ | refine g_ldL hn HX.out ?_ | refine g_ldA hn HX.out ?_ | refine g_fd hn ?_ | refine g_ld hn ?_ | refine g_nc hn ?_ | refine g_nt hn ?_ | refine g_an hn ?_ | refine g_or hn ?_ | refine g_ln hn ?_ | refine g_ex hn ?_ | refine g_neq2 hn ?_ | refine g_neq hn ?_ | refine g_eql2 hn ?_ | refine g_eql hn ?_ | refine g_leq2 hn ?_ | refine g_leq hn ?_ | refine g_lss2 hn ?_ | refine g_lss hn ?_ | refine g_gtr2 hn ?_ | refine g_gtr hn ?_ | refine g_geq2 hn ?_ | refine g_geq hn ?_ | refine g_b0 hn ?_ | refine g_bn hn ?_ | refine g_bc hn ?_ | refine g_cv hn ?_ | refine g_ac hn ?_ | refine g_mc hn ?_
  refine fl_end ?_
  clear hn
  subst ha
  dsimp only [fr, cnd, Act.put, cond_true]
  simp only [List.setIfInBounds_toArray, List.set_cons_zero, List.set_cons_succ, Bool.not_true]
  replace hB := bnx hB HX.out hb2
  replace HR := Lib.hid (HR.out.keep hb2 (Nat.le_trans HBB.out (Nat.le_of_lt HX.out.lt)))
  replace HL := Lib.hid (HL.out.keep hb2)
  replace HX := Lib.hid (HX.out.keep hb2)
  clear hb2
  have cf : ∀ W, (Blk W b (ltI x h) 58 ∧ LtR B W x h ∧ Below b w W ∧ LaidF W) → (Instr.fieldAt 58 (.pointer (some ⟨b, 0, none⟩)) 0).run Tryz.prog W = .ok (.pointer (some ⟨b, 0, none⟩)) W := fun W _ => lc_a0 W b
  have cl : ∀ W, (Blk W b (ltI x h) 58 ∧ LtR B W x h ∧ Below b w W ∧ LaidF W) → (Instr.loadAt 3 (.pointer (some ⟨b, 0, none⟩))).run Tryz.prog W = .ok (.int .i64 x.k) W := fun W hs => lc_l0 hs.1
  have ca : ∀ W, (Blk W b (ltI x h) 58 ∧ LtR B W x h ∧ Below b w W ∧ LaidF W) → (Instr.loadAt 58 (.pointer (some ⟨b, 0, none⟩))).run Tryz.prog W = .ok (.agg (ltI x h)) W := fun W hs => lc_all hs.1
  have cc : ∀ W, (Blk W b (ltI x h) 58 ∧ LtR B W x h ∧ Below b w W ∧ LaidF W) → (convert 3 5 (.int .i64 x.k)).run Tryz.prog W = .ok (.int .u8 (k : Int)) W := fun W _ => by
    rw [hk0]
    have hw : IntKind.u8.wrap (k : Int) = (k : Int) := by unfold IntKind.wrap; simp [IntKind.bits, IntKind.signed]; omega
    go_simp
  go_upto_region 3 with fail
  refine fh_start (S := (fun W => Blk W b (ltI x h) 58 ∧ LtR B W x h ∧ Below b w W ∧ LaidF W)) (by kernel_rfl) (⟨HX.out, HR.out.keep ((Below.refl B _).drew) (Nat.le_refl _), hB.drew, HL.out⟩) (fun hS => ?_)
  generalize ha : Act.mk _ _ = a0
  have hn : a0.tmps.size = 16 := by rw [← ha]; kernel_rfl
  have h1 : (fr a0 []).eval (.tmp 1) = .pointer (some ⟨b, 0, none⟩) := by rw [← ha]; kernel_rfl
  refine fh_know hn rfl h1 ?_
  clear h1
  first | refine h_mv 0 hn hS ?_ | refine h_as 0 hn hS ?_ | refine h_fd 0 hn hS ?_ | refine h_ld 0 hn hS ?_ | refine h_nc 0 hn hS ?_ | refine h_cv 0 hn hS ?_ | refine h_ex 0 hn hS ?_ | refine h_nt 0 hn hS ?_ | refine h_ix 0 hn hS ?_ | refine h_lk 0 hn hS ?_
  first | refine h_mv 1 hn hS ?_ | refine h_as 1 hn hS ?_ | refine h_fd 1 hn hS ?_ | refine h_ld 1 hn hS ?_ | refine h_nc 1 hn hS ?_ | refine h_cv 1 hn hS ?_ | refine h_ex 1 hn hS ?_ | refine h_nt 1 hn hS ?_ | refine h_ix 1 hn hS ?_ | refine h_lk 1 hn hS ?_
  first | refine h_mv 2 hn hS ?_ | refine h_as 2 hn hS ?_ | refine h_fd 2 hn hS ?_ | refine h_ld 2 hn hS ?_ | refine h_nc 2 hn hS ?_ | refine h_cv 2 hn hS ?_ | refine h_ex 2 hn hS ?_ | refine h_nt 2 hn hS ?_ | refine h_ix 2 hn hS ?_ | refine h_lk 2 hn hS ?_
  first | refine h_mv 3 hn hS ?_ | refine h_as 3 hn hS ?_ | refine h_fd 3 hn hS ?_ | refine h_ld 3 hn hS ?_ | refine h_nc 3 hn hS ?_ | refine h_cv 3 hn hS ?_ | refine h_ex 3 hn hS ?_ | refine h_nt 3 hn hS ?_ | refine h_ix 3 hn hS ?_ | refine h_lk 3 hn hS ?_
  refine h_c1 4 enters_inside hn (inside_any x h _ hS.2.1 (Nat.le_trans HBB.out (Nat.le_of_lt hS.1.lt)) HF.out HG.out HI.out) ?_
  rintro v w3 ⟨A3, n3, c3, rfl, hl3, hr3, hc3, hb3⟩
  replace hS := (show (fun W => Blk W b (ltI x h) 58 ∧ LtR B W x h ∧ Below b w W ∧ LaidF W) w3 from ⟨hS.1.keep hb3, hS.2.1.keep hb3 (Nat.le_trans HBB.out (Nat.le_of_lt hS.1.lt)), bnx hS.2.2.1 hS.1 hb3, hS.2.2.2.keep hb3⟩)
  refine ⟨hS, ?_⟩
  have cb : ∀ W, (Blk W b (ltI x h) 58 ∧ LtR B W x h ∧ Below b w W ∧ LaidF W) → (Instr.build 99 #[(0, .int .u8 (k : Int)), (1, .slice A3 n3 c3)]).run Tryz.prog W = .ok (.agg #[.int .u8 (k : Int), .slice A3 n3 c3]) W := fun W _ => by kernel_rfl
  refine h_bd 5 hn hS ?_ (qs := #[(0, .int .u8 (k : Int)), (1, .slice A3 n3 c3)]) (hp := fun hk _ => by simp only [List.map_toArray, List.map_cons, List.map_nil, lk_at hk (i := 9) rfl (fun _ => rfl) rfl, lk_at hk (i := 11) rfl (fun _ => rfl) rfl])
  have hc4 : Calls Tryz.prog 47 #[.agg #[.int .u8 (k : Int), .slice A3 n3 c3]] w3 fun e w' => ∃ v, e = .returned v ∧ ∃ (A4 : Option Addr) (c4 : Nat), v = .tuple #[.slice A4 (n3 + 9) c4, .int .i64 0] ∧ OwnB w3.heap.size w' A4 (n3 + 9) c4 (encB x) ∧ Below w3.heap.size w3 w' := by
    rw [HK.out.2, ← HK.out.1]
    refine (seal_any (UInt8.ofNat k) A3 n3 c3 (insB x) w3 hS.2.2.2 hl3 (by have := HI.out.ins; omega) hr3).mono ?_
    rintro e w4 ⟨⟨A4, c4, he, hO⟩, hb4⟩
    exact ⟨_, he, A4, c4, rfl, hO, hb4⟩
  refine h_c1 6 enters_fSeal hn hc4 ?_
  rintro v w4 ⟨A4, c4, rfl, hO4, hb4⟩
  have hlt := hS.1.lt
  replace hS := (show (fun W => Blk W b (ltI x h) 58 ∧ LtR B W x h ∧ Below b w W ∧ LaidF W) w4 from ⟨hS.1.keep hb4, hS.2.1.keep hb4 (Nat.le_trans HBB.out (Nat.le_of_lt hS.1.lt)), bnx hS.2.2.1 hS.1 hb4, hS.2.2.2.keep hb4⟩)
  refine ⟨hS, ?_⟩
  first | refine h_mv 7 hn hS ?_ | refine h_as 7 hn hS ?_ | refine h_fd 7 hn hS ?_ | refine h_ld 7 hn hS ?_ | refine h_nc 7 hn hS ?_ | refine h_cv 7 hn hS ?_ | refine h_ex 7 hn hS ?_ | refine h_nt 7 hn hS ?_ | refine h_ix 7 hn hS ?_ | refine h_lk 7 hn hS ?_
  first | refine h_mv 8 hn hS ?_ | refine h_as 8 hn hS ?_ | refine h_fd 8 hn hS ?_ | refine h_ld 8 hn hS ?_ | refine h_nc 8 hn hS ?_ | refine h_cv 8 hn hS ?_ | refine h_ex 8 hn hS ?_ | refine h_nt 8 hn hS ?_ | refine h_ix 8 hn hS ?_ | refine h_lk 8 hn hS ?_
  first | refine h_mv 9 hn hS ?_ | refine h_as 9 hn hS ?_ | refine h_fd 9 hn hS ?_ | refine h_ld 9 hn hS ?_ | refine h_nc 9 hn hS ?_ | refine h_cv 9 hn hS ?_ | refine h_ex 9 hn hS ?_ | refine h_nt 9 hn hS ?_ | refine h_ix 9 hn hS ?_ | refine h_lk 9 hn hS ?_
  first | refine h_mv 10 hn hS ?_ | refine h_as 10 hn hS ?_ | refine h_fd 10 hn hS ?_ | refine h_ld 10 hn hS ?_ | refine h_nc 10 hn hS ?_ | refine h_cv 10 hn hS ?_ | refine h_ex 10 hn hS ?_ | refine h_nt 10 hn hS ?_ | refine h_ix 10 hn hS ?_ | refine h_lk 10 hn hS ?_
  refine fh_end (by kernel_rfl) ?_
  clear hn cf cl ca cc cb
  subst ha
  dsimp only [fr, cnd, Act.put, cond_true]
  simp only [List.setIfInBounds_toArray, List.set_cons_zero, List.set_cons_succ]
  go_wp2_with fail
  go_ret2
  exact ⟨_, rfl, A4, n3 + 9, c4, rfl, hO4.less (by rw [hb]; exact Nat.le_of_lt hlt), by rw [hb]; exact hS.2.2.1⟩
end Go.Proofs.YtpjleeeligahaaaGreatDoor

namespace Go.Proofs.YtpjleeeligahaaaGreatDoor

/-- Four bytes as a number, the highest first. -/
def numF (b : List UInt8) (p : Nat) : Nat := 16777216 * (byteAt b p).toNat + 65536 * (byteAt b (p + 1)).toNat + 256 * (byteAt b (p + 2)).toNat + (byteAt b (p + 3)).toNat
theorem four_is {x : List UInt8} (h : x.length = 4) {c : Nat} (hc : c < 4294967296) : fourB c = x ↔ c = numF x 0 := by
  match x, h with
  | [a, b, d, e], _ =>
    have ha := a.toNat_lt
    have hb := b.toNat_lt
    have hd := d.toNat_lt
    have he := e.toNat_lt
    show fourB c = [a, b, d, e] ↔ c = 16777216 * a.toNat + 65536 * b.toNat + 256 * d.toNat + e.toNat
    unfold fourB
    constructor
    · intro h
      simp only [List.cons.injEq, and_true] at h
      obtain ⟨rfl, rfl, rfl, rfl⟩ := h
      rw [UInt8.toNat_ofNat', UInt8.toNat_ofNat', UInt8.toNat_ofNat', UInt8.toNat_ofNat']
      omega
    · intro h
      simp only [List.cons.injEq, and_true]
      refine ⟨UInt8.toNat_inj.1 ?_, UInt8.toNat_inj.1 ?_, UInt8.toNat_inj.1 ?_, UInt8.toNat_inj.1 ?_⟩
      all_goals
        rw [UInt8.toNat_ofNat']
        omega
theorem body_is {b : List UInt8} (h9 : 9 ≤ b.length) (h0 : byteAt b 0 = 229) (hl : lenF b + 9 ≤ b.length) : bodyL (byteAt b 1) ((b.drop 5).take (lenF b)) = b.take (lenF b + 5) := by
  match b, h9 with
  | x0 :: x1 :: x2 :: x3 :: x4 :: r, _ =>
    have hx0 : x0 = 229 := h0
    have h2 := x2.toNat_lt
    have h3 := x3.toNat_lt
    have h4 := x4.toNat_lt
    have hN : lenF (x0 :: x1 :: x2 :: x3 :: x4 :: r) = 65536 * x2.toNat + 256 * x3.toNat + x4.toNat := rfl
    rw [hN] at hl ⊢
    have hlen : (r.take (65536 * x2.toNat + 256 * x3.toNat + x4.toNat)).length = 65536 * x2.toNat + 256 * x3.toNat + x4.toNat := by
      rw [List.length_take]
      simp only [List.length_cons] at hl
      omega
    show bodyL x1 (r.take _) = x0 :: x1 :: x2 :: x3 :: x4 :: r.take _
    unfold bodyL
    rw [hlen, hx0]
    have e2 : UInt8.ofNat ((65536 * x2.toNat + 256 * x3.toNat + x4.toNat) / 65536) = x2 := UInt8.toNat_inj.1 (by rw [UInt8.toNat_ofNat']; omega)
    have e3 : UInt8.ofNat ((65536 * x2.toNat + 256 * x3.toNat + x4.toNat) / 256 % 256) = x3 := UInt8.toNat_inj.1 (by rw [UInt8.toNat_ofNat']; omega)
    have e4 : UInt8.ofNat ((65536 * x2.toNat + 256 * x3.toNat + x4.toNat) % 256) = x4 := UInt8.toNat_inj.1 (by rw [UInt8.toNat_ofNat']; omega)
    rw [e2, e3, e4]
    rfl
/-- What stands in bytes as long as a frame: the kind, the inside, what is wrong. -/
def unsF (y : List UInt8) : UInt8 × List UInt8 × Nat :=
  if crcL (y.take (y.length - 4)) = numF (y.drop (y.length - 4)) 0 then (byteAt y 1, (y.take (y.length - 4)).drop 5, 0) else (0, [], 4)
theorem numF_take {x : List UInt8} : numF (x.take 4) 0 = numF x 0 := by
  have g : ∀ i, i < 4 → byteAt (x.take 4) i = byteAt x i := fun i hi => by
    unfold byteAt
    rw [List.getD_eq_getElem?_getD, List.getD_eq_getElem?_getD, List.getElem?_take, if_pos hi]
  unfold numF
  rw [g 0 (by omega), g 1 (by omega), g 2 (by omega), g 3 (by omega)]
/-- .. is what is taken. -/
theorem uns_take {b : List UInt8} (h9 : 9 ≤ b.length) (h0 : byteAt b 0 = 229) (hm : lenF b ≤ 100000) (hl : lenF b + 9 ≤ b.length) : takeF b = ((unsF (b.take (lenF b + 9))).1, (unsF (b.take (lenF b + 9))).2.1, lenF b + 9, (unsF (b.take (lenF b + 9))).2.2) := by
  have hbody := body_is h9 h0 hl
  have hN : (b.take (lenF b + 9)).length = lenF b + 9 := by rw [List.length_take]; omega
  have h1 : byteAt (b.take (lenF b + 9)) 1 = byteAt b 1 := by
    unfold byteAt
    rw [List.getD_eq_getElem?_getD, List.getD_eq_getElem?_getD, List.getElem?_take, if_pos (by omega)]
  have h5 : (b.take (lenF b + 9)).take (lenF b + 5) = b.take (lenF b + 5) := by rw [List.take_take, Nat.min_eq_left (by omega)]
  have h4 : (b.take (lenF b + 9)).drop (lenF b + 5) = (b.drop (lenF b + 5)).take 4 := by rw [List.drop_take, show lenF b + 9 - (lenF b + 5) = 4 by omega]
  have hin : (b.take (lenF b + 5)).drop 5 = (b.drop 5).take (lenF b) := by rw [List.drop_take, Nat.add_sub_cancel]
  have hall : b.take (lenF b + 9) = b.take (lenF b + 5) ++ (b.drop (lenF b + 5)).take 4 := by
    rw [← h4, ← h5, List.take_append_drop]
  have hx4 : ((b.drop (lenF b + 5)).take 4).length = 4 := by rw [List.length_take, List.length_drop]; omega
  have hiff : sealL (byteAt b 1) ((b.drop 5).take (lenF b)) = b.take (lenF b + 9) ↔ crcL (b.take (lenF b + 5)) = numF (b.drop (lenF b + 5)) 0 := by
    unfold sealL
    rw [hbody, hall, List.append_cancel_left_eq, four_is hx4 (crcL_lt _), numF_take]
  unfold takeF unsF
  rw [if_neg (by rw [h0]; simp; omega), if_neg (by omega), hN, show lenF b + 9 - 4 = lenF b + 5 by omega, h5, h4, numF_take, h1, hin]
  by_cases h : crcL (b.take (lenF b + 5)) = numF (b.drop (lenF b + 5)) 0
  · rw [if_pos h, if_neg (fun k => k (hiff.2 h))]
  · rw [if_neg h, if_pos (fun k => h (hiff.1 k))]
end Go.Proofs.YtpjleeeligahaaaGreatDoor

namespace Go.Proofs.YtpjleeeligahaaaGreatDoor
open Go.RowKit

set_option maxRecDepth 100000 in
set_option maxHeartbeats 2000000 in
theorem wideTake_any {B : Nat} (A : Option Addr) (n c : Nat) (l : List UInt8) (w : World) (hn : l.length = n) (hr : RdB B w A l) (hm : n ≤ 8) :
    Calls Tryz.prog 129 #[.slice A n c] w fun e w' => e = .returned (.int .u64 (beV l : Nat)) ∧ w = w' := by
  have HN := Lib.hid hn
  clear hn
  go_enter Tryz.func129, Tryz.ntmps129
  go_wp2_with fail
  go_loopw [3, 8] (fun x i wr => ∃ k : Nat, k ≤ n ∧ x = .int .u64 (beV (l.take k) : Nat) ∧ i = .int .i64 k ∧ w = wr) (fun _ i _ => n - (intOf i).toNat)
  case atStart => exact ⟨0, Nat.zero_le _, by simp [beV_nil], rfl, rfl⟩
  case round =>
    obtain ⟨k, hk, rfl, rfl, rfl⟩ := hrel
    by_cases hlt : k < n
    · have hlk : k < l.length := by have := HN.out; omega
      obtain ⟨ad, rfl, _, hc⟩ := hr.at_ hlk
      have i1 : (0 : Int) ≤ (k : Int) := by omega
      have i2 : (k : Int) < (n : Int) := by omega
      have hg : l[k]? = some l[k] := List.getElem?_eq_getElem hlk
      generalize l[k] = x at hc hg
      have hb := beV_take hg
      have hbl := beV_take_lt l (k + 1) (by omega)
      have HV := Lib.hid (or_byte (beV (l.take k)) x.toNat (by rw [← hb]; exact hbl) x.toNat_lt)
      rw [← hb] at HV
      clear hg hb hbl
      go_wp2_with fail
      go_roundw
      case rel => exact ⟨k + 1, by omega, by rw [HV.out], by go_num, trivial⟩
      case measure => simp [intOf]; omega
    · have i2 : ¬ (k : Int) < (n : Int) := by omega
      have e : l.take k = l := List.take_of_length_le (by have := HN.out; omega)
      rw [e]
      go_wp2_with fail
      go_ret
      exact ⟨rfl, by first | rfl | trivial⟩
end Go.Proofs.YtpjleeeligahaaaGreatDoor

namespace Go.Proofs.YtpjleeeligahaaaGreatDoor
open Go.RowKit

/-- Three bytes as a number; four of them. -/
theorem be_three {b : List UInt8} (h : 5 ≤ b.length) : beV ((b.take 5).drop 2) = lenF b := by
  match b, h with
  | x0 :: x1 :: x2 :: x3 :: x4 :: r, _ =>
    show ((0 * 256 + x2.toNat) * 256 + x3.toNat) * 256 + x4.toNat = 65536 * x2.toNat + 256 * x3.toNat + x4.toNat
    omega
theorem be_four {b : List UInt8} (h : b.length = 4) : beV b = numF b 0 := by
  match b, h with
  | [x0, x1, x2, x3], _ =>
    show (((0 * 256 + x0.toNat) * 256 + x1.toNat) * 256 + x2.toNat) * 256 + x3.toNat = 16777216 * x0.toNat + 65536 * x1.toNat + 256 * x2.toNat + x3.toNat
    omega

/-- How long the frame is that b begins with; 0: there is none so long. -/
theorem size_none {b : List UInt8} (h : b.length < 9 ∨ byteAt b 0 ≠ 229 ∨ 100000 < lenF b ∨ b.length < lenF b + 9) : (takeF b).2.2.1 = 0 ∧ (takeF b).2.2.2 = 2 := by
  unfold takeF
  by_cases h1 : b.length < 9 ∨ byteAt b 0 ≠ 229
  · rw [if_pos h1]
    exact ⟨rfl, rfl⟩
  · rw [if_neg h1]
    have h2 : 100000 < lenF b ∨ b.length < lenF b + 9 := by
      rcases h with h | h | h | h
      · exact absurd (.inl h) h1
      · exact absurd (.inr h) h1
      · exact .inl h
      · exact .inr h
    rw [if_pos h2]
    exact ⟨rfl, rfl⟩
theorem size_some {b : List UInt8} (h1 : 9 ≤ b.length) (h2 : byteAt b 0 = 229) (h3 : lenF b ≤ 100000) (h4 : lenF b + 9 ≤ b.length) : (takeF b).2.2.1 = lenF b + 9 := by
  unfold takeF
  rw [if_neg (by rw [h2]; simp; omega), if_neg (by omega)]
  split <;> rfl
/-- What length answers. -/
def LenP (s code : Nat) (w : World) (e : Ending) (w' : World) : Prop :=
  (∃ v : Value, e = .returned (.tuple #[.int .i64 (s : Nat), v]) ∧ ((s ≠ 0 ∧ v = .nilIface) ∨ (s = 0 ∧ code = 2 ∧ (v = .iface 188 (.int .i64 2) ∨ ∃ l : Int, v = .iface 139 (.agg #[.int .i64 l, .int .i64 2]))))) ∧ Below w.heap.size w w'

set_option maxRecDepth 100000 in
set_option maxHeartbeats 4000000 in
theorem length_any {B : Nat} (A : Option Addr) (n c : Nat) (b : List UInt8) (w : World) (hn : b.length = n) (hc : n ≤ c) (hr : RdB B w A b) (hm : n ≤ 1000000000) :
    Calls Tryz.prog 84 #[.slice A n c] w fun e w' => LenP (takeF b).2.2.1 (takeF b).2.2.2 w e w' := by
  have HN := Lib.hid hn
  have gm : (n : Int) ≤ 1000000000 := by omega
  by_cases h5 : n < 5
  · have g5 : (n : Int) < 5 := by omega
    have R := Lib.hid (size_none (b := b) (.inl (by omega)))
    clear hn
    go_enter Tryz.func84, Tryz.ntmps84
    go_wp2_with fail
    go_ret2
    rw [R.out.1, R.out.2]
    exact ⟨⟨_, rfl, .inr ⟨rfl, rfl, .inr ⟨_, rfl⟩⟩⟩, Below.refl _ _⟩
  · have g5 : ¬ (n : Int) < 5 := by omega
    have g0 : (0 : Int) < (n : Int) := by omega
    have g1 : (2 : Int) < (n : Int) := by omega
    have g2 : (3 : Int) < (n : Int) := by omega
    have g3 : (4 : Int) < (n : Int) := by omega
    obtain ⟨ad, rfl, _, c0, _, c2, c3, c4⟩ := five hr (by omega)
    by_cases h0 : byteAt b 0 = 229
    · have e0 : (((byteAt b 0).toNat : Int) != 229) = false := by rw [h0]; rfl
      have e0' : (((byteAt b 0).toNat : Int) == 229) = true := by rw [h0]; rfl
      have q1 : ∀ W : World, (Instr.sliceAt 23 (.slice (some ad) n c) (some (.int .i64 2)) (some (.int .i64 5)) none).run Tryz.prog W = .ok (.slice (cutA (some ad) c 2) 3 (c - 2)) W := fun W => run_cut2 W (some ad) n c 2 5 2 5 rfl rfl (by omega) (by omega) hc
      have hsub : RdB B w (cutA (some ad) c 2) ((b.take 5).drop 2) := (hr.take 5).cut (p := 2) (c := c) (by rw [List.length_take, hn]; omega)
      have HT := Lib.hid (wideTake_any (cutA (some ad) c 2) 3 (c - 2) ((b.take 5).drop 2) w (by rw [List.length_drop, List.length_take, hn]; omega) hsub (by omega))
      rw [be_three (by omega)] at HT
      have hlt24 : lenF b < 16777216 := by
        have b2' := (byteAt b 2).toNat_lt
        have b3' := (byteAt b 3).toNat_lt
        have b4' := (byteAt b 4).toNat_lt
        show 65536 * (byteAt b 2).toNat + 256 * (byteAt b 3).toNat + (byteAt b 4).toNat < 16777216
        omega
      have H0 := Lib.hid h0
      generalize hLL : lenF b = N at HT hlt24
      have HLL := Lib.hid hLL
      clear hLL h0 hn hr hsub
      by_cases hbig : 100000 < N
      · have k1 : (100000 : Int) < (N : Int) := by omega
        have R := Lib.hid (size_none (b := b) (.inr (.inr (.inl (by rw [HLL.out]; exact hbig)))))
        go_enter Tryz.func84, Tryz.ntmps84
        go_wp2_with fail
        refine HT.out.mono ?_
        rintro e w2 ⟨rfl, rfl⟩
        go_wp2_with fail
        go_ret2
        rw [R.out.1, R.out.2]
        exact ⟨⟨_, rfl, .inr ⟨rfl, rfl, .inr ⟨_, rfl⟩⟩⟩, Below.refl _ _⟩
      · have k1 : ¬ (100000 : Int) < (N : Int) := by omega
        by_cases hlong : n < N + 9
        · have k2 : (n : Int) < (N : Int) + 9 := by omega
          have R := Lib.hid (size_none (b := b) (.inr (.inr (.inr (by rw [HLL.out, HN.out]; exact hlong)))))
          go_enter Tryz.func84, Tryz.ntmps84
          go_wp2_with fail
          refine HT.out.mono ?_
          rintro e w2 ⟨rfl, rfl⟩
          go_wp2_with fail
          go_ret2
          rw [R.out.1, R.out.2]
          exact ⟨⟨_, rfl, .inr ⟨rfl, rfl, .inr ⟨_, rfl⟩⟩⟩, Below.refl _ _⟩
        · have k2 : ¬ (n : Int) < (N : Int) + 9 := by omega
          have R := Lib.hid (size_some (b := b) (by rw [HN.out]; omega) H0.out (by rw [HLL.out]; omega) (by rw [HLL.out, HN.out]; omega))
          go_enter Tryz.func84, Tryz.ntmps84
          go_wp2_with fail
          refine HT.out.mono ?_
          rintro e w2 ⟨rfl, rfl⟩
          go_wp2_with fail
          go_ret2
          rw [R.out, HLL.out]
          exact ⟨⟨_, by go_num, .inl ⟨by omega, rfl⟩⟩, Below.refl _ _⟩
    · have e0 : (((byteAt b 0).toNat : Int) != 229) = true := by
        rw [bne_iff_ne]
        intro e
        exact h0 (UInt8.toNat_inj.1 (by show _ = 229; omega))
      have e0' : (((byteAt b 0).toNat : Int) == 229) = false := by
        rw [beq_eq_false_iff_ne]
        intro e
        exact h0 (UInt8.toNat_inj.1 (by show _ = 229; omega))
      have R := Lib.hid (size_none (b := b) (.inr (.inl h0)))
      clear hn h0
      go_enter Tryz.func84, Tryz.ntmps84
      go_wp2_with fail
      go_ret2
      rw [R.out.1, R.out.2]
      exact ⟨⟨_, rfl, .inr ⟨rfl, rfl, .inl rfl⟩⟩, Below.refl _ _⟩
end Go.Proofs.YtpjleeeligahaaaGreatDoor

namespace Go.Proofs.YtpjleeeligahaaaGreatDoor
open Go.RowKit

theorem below_draws {B : Nat} {a w : World} (h : Below B a w) (n : Nat) : Below B a (w.drewN n) := ⟨h.os, h.tape, h.output, h.size, h.block⟩
theorem OwnB.other {base g : Nat} {W : World} {A : Option Addr} {n c : Nat} {l : List UInt8} (h : OwnB base W A n c l) (hg : g < base) (i : Nat) (v : Value) : OwnB base (W.setCell ⟨g, i, none⟩ v) A n c l := by
  refine World.ownsRow.kept h (row := some g) ⟨rfl, rfl, rfl, by simp, fun k _ hr => Below.heap_setCell W ⟨g, i, none⟩ v k (fun e => hr (by rw [e]))⟩ ?_
  cases A with
  | none => simp [Value.ownBlock]
  | some a =>
    have := World.ownsRow.lt h a.block rfl
    right
    intro e
    simp only [Value.ownBlock, Option.some.injEq] at e
    omega
theorem slice_notnil (ad : Addr) (n c : Nat) (w : World) : (binOp .eql 23 (.slice (some ad) n c) (.slice none 0 0)).run Tryz.prog w = .ok (.bool false) w := by
  first
    | kernel_rfl
    | simp [binOp, go_sem]
    | go_simp
set_option maxRecDepth 100000 in
set_option maxHeartbeats 2000000 in
theorem fclone_any {B : Nat} (ad : Addr) (n c : Nat) (l : List UInt8) (w : World) (hn : l.length = n) (hr : RdB B w (some ad) l) (hB : B ≤ w.heap.size) (hm : n ≤ 1000000) :
    Calls Tryz.prog 130 #[.slice (some ad) n c] w fun e w' => (∃ (A' : Option Addr) (c' : Nat), e = .returned (.slice A' n c') ∧ OwnB w.heap.size w' A' n c' l) ∧ Below w.heap.size w w' := by
  obtain ⟨i0, hi0, hz0, hz1, hz2⟩ := info_parts byt_info
  have hlit0 : OwnB w.heap.size (w.alloc (.cells #[] 5)) (some ⟨w.heap.size, 0, none⟩) 0 0 [] := OwnB.lit w #[] [] rfl rfl (Nat.le_refl _) (Nat.zero_le _)
  have hrf := hr.keep (b0 w (.cells #[] 5)) hB
  have HN := Lib.hid hn
  have hnn := slice_notnil ad n c w
  clear hn
  go_enter Tryz.func130, Tryz.ntmps130
  go_wp2_with (at_builtin; refine wpList_apB (base := w.heap.size) (n := 0) (m := n) (l := []) (l2 := l) (by rfl) _ _ (by rfl) Tryz.underlying23 Tryz.underlying23 hi0 hz0 hz1 hz2 (by rfl) (by rfl) hlit0 hrf HN.out n (by omega) (by omega) (by simp) ?_; intro A3 c3 w3 hO3 hb3 hg3; rw [List.nil_append] at hO3; have hB3 := (b0 w (.cells #[] 5)).trans hb3)
  go_ret
  exact ⟨⟨A3, c3, rfl, hO3⟩, hB3⟩

/-- What unseal says is wrong. -/
def ErrU (v : Value) (n : Nat) : Prop := (v = .nilIface ∧ n = 0) ∨ (v = .iface 188 (.int .i64 4) ∧ n = 4)
theorem ErrU.err {v : Value} {n : Nat} (h : ErrU v n) : ErrF v n := by
  rcases h with h | ⟨rfl, rfl⟩
  · exact .inl h
  · exact .inr (.inl rfl)

set_option maxRecDepth 100000 in
set_option maxHeartbeats 4000000 in
theorem unseal_any {B : Nat} (A : Option Addr) (n c : Nat) (y : List UInt8) (w : World) (hL : LaidF w) (hn : y.length = n) (hr : RdB B w A y) (hB : B ≤ w.heap.size) (h9 : 9 ≤ n) (hc : n ≤ c) (hm : n ≤ 1000000) :
    Calls Tryz.prog 86 #[.slice A n c] w fun e w' => (∃ (A' : Option Addr) (c' : Nat) (v : Value), e = .returned (.tuple #[.agg #[.int .u8 ((unsF y).1.toNat : Int), .slice A' (unsF y).2.1.length c'], v]) ∧ OwnB w.heap.size w' A' (unsF y).2.1.length c' (unsF y).2.1 ∧ ErrU v (unsF y).2.2) ∧ Below w.heap.size w w' := by
  have HN := Lib.hid hn
  have gm : (n : Int) ≤ 1000000 := by omega
  obtain ⟨ad, rfl, hbl, _, c1, _, _, _⟩ := five hr (by omega)
  have g1 : (1 : Int) < (n : Int) := by omega
  have q0 : ∀ W : World, (Instr.sliceAt 23 (.slice (some ad) n c) none (some (.int .i64 ((n : Int) - 4))) none).run Tryz.prog W = .ok (.slice (some ad) (n - 4) c) W := fun W => run_cut0 W (some ad) n c (n - 4) _ (by omega) (by omega) hc
  have q1 : ∀ W : World, (Instr.sliceAt 23 (.slice (some ad) n c) (some (.int .i64 ((n : Int) - 4))) none none).run Tryz.prog W = .ok (.slice (cutA (some ad) c (n - 4)) 4 (c - (n - 4))) W := fun W => by
    have h := run_cutI W (some ad) n c (n - 4) ((n : Int) - 4) (by omega) (by omega)
    rwa [show n - (n - 4) = 4 by omega] at h
  have q2 : ∀ W : World, (Instr.sliceAt 23 (.slice (some ad) n c) (some (.int .i64 5)) (some (.int .i64 ((n : Int) - 4))) none).run Tryz.prog W = .ok (.slice (cutA (some ad) c 5) (n - 9) (c - 5)) W := fun W => by
    have h := run_cut2 W (some ad) n c 5 (n - 4) 5 ((n : Int) - 4) rfl (by omega) (by omega) (by omega) hc
    rwa [show n - 4 - 5 = n - 9 by omega] at h
  have hcut : cutA (some ad) c 5 = some (ad.add 5) := by unfold cutA; rw [if_neg (by omega)]; rfl
  rw [hcut] at q2
  have hsub : RdB B w (some (ad.add 5)) ((y.take (n - 4)).drop 5) := by
    have h := (hr.take (n - 4)).cut (p := 5) (c := c) (by rw [List.length_take, HN.out]; omega)
    rwa [hcut] at h
  have hsl : ((y.take (n - 4)).drop 5).length = n - 9 := by rw [List.length_drop, List.length_take, HN.out]; omega
  have FS := Lib.hid (fun W (h : Below w.heap.size w W) => sum_any (some ad) (n - 4) c (y.take (n - 4)) W (hL.keep h) (by rw [List.length_take, HN.out]; omega) ((hr.take (n - 4)).keep h hB) (by omega))
  have FT := Lib.hid (fun W (h : Below w.heap.size w W) => wideTake_any (cutA (some ad) c (n - 4)) 4 (c - (n - 4)) (y.drop (n - 4)) W (by rw [List.length_drop, HN.out]; omega) ((hr.cut (p := n - 4) (c := c) (by rw [HN.out]; exact hc)).keep h hB) (by omega))
  rw [be_four (show (y.drop (n - 4)).length = 4 by rw [List.length_drop, HN.out]; omega)] at FT
  have HU : Hid (unsF y = if crcL (y.take (n - 4)) = numF (y.drop (n - 4)) 0 then (byteAt y 1, (y.take (n - 4)).drop 5, 0) else (0, [], 4)) := by show _ = _; unfold unsF; rw [HN.out]
  have FC := Lib.hid (fun W (h : Below w.heap.size w W) => fclone_any (ad.add 5) (n - 9) (c - 5) _ W hsl (hsub.keep h hB) (Nat.le_trans hB h.size) (by omega))
  generalize unsF y = r at HU ⊢
  have hs1 := crcL_lt (y.take (n - 4))
  generalize crcL (y.take (n - 4)) = s1 at FS HU hs1
  have ew : IntKind.u64.wrap (s1 : Int) = (s1 : Int) := by rw [IntKind.wrap_u64]; omega
  generalize numF (y.drop (n - 4)) 0 = s2 at FT HU
  generalize (y.take (n - 4)).drop 5 = ins at FC HU hsl hsub
  generalize byteAt y 1 = k at c1 HU
  have hB1 := b0 w (.cells #[.int .u8 0, .slice none 0 0] 99)
  have hP := blk_new w #[.int .u8 0, .slice none 0 0] 99
  have c1' : (w.alloc (.cells #[.int .u8 0, .slice none 0 0] 99)).cell? ⟨ad.block, ad.off + 1, none⟩ = some (.int .u8 (k.toNat : Int)) := (hB1.cell (p := ⟨ad.block, ad.off + 1, none⟩) (Nat.lt_of_lt_of_le hbl hB)).trans c1
  have hlt : ad.block < (w.alloc (.cells #[.int .u8 0, .slice none 0 0] 99)).heap.size := Nat.lt_of_lt_of_le (Nat.lt_of_lt_of_le hbl hB) hB1.size
  by_cases hs : s1 = s2
  · have e1 : (IntKind.u64.wrap (s2 : Int) != (s2 : Int)) = false := by rw [hs] at ew; rw [ew]; simp
    have e2 : (IntKind.u64.wrap (s2 : Int) == (s2 : Int)) = true := by rw [hs] at ew; rw [ew]; simp
    have R : Hid (r = (k, ins, 0)) := by show _ = _; rw [HU.out, if_pos hs]
    clear HU hn ew hs1
    go_enter Tryz.func86, Tryz.ntmps86
    go_wp2_with fail
    go_quiet ((first
      | (go_at_call 98; exact Calls.quiet_of_same ((FS.out _ (below_draws hB1 _)).mono fun _ _ h => ⟨h.1, h.2.symm⟩))
      | (go_at_call 129; exact Calls.quiet_of_same ((FT.out _ (below_draws hB1 _)).mono fun _ _ h => ⟨h.1, h.2.symm⟩))))
    go_wp2_with fail
    go_region_with ((go_at_call 130; refine (FC.out _ (below_draws hB1 _)).mono ?_; rintro e w7 ⟨⟨A7, c7, rfl, hO7⟩, hb7⟩; have hP7 := Blk.keep (Blk.drew hP _) hb7; have p0 := hP7.cell 0; have p1 := hP7.cell 1; have f0 := hP7.free 0; have f1 := hP7.free 1; have k1 := (Below.cell hb7 (p := ⟨ad.block, ad.off + 1, none⟩) hlt).trans c1'))
    all_goals
      go_wp2_with fail
      have hP8 := (hP7.set 0 (.int .u8 (k.toNat : Int))).set 1 (.slice A7 (n - 9) c7)
      have p2 : ((w7.setCell ⟨w.heap.size, 0, none⟩ (.int .u8 (k.toNat : Int))).setCell ⟨w.heap.size, 1, none⟩ (.slice A7 (n - 9) c7)).cell? ⟨w.heap.size, 0, none⟩ = some (.int .u8 (k.toNat : Int)) := hP8.cell 0
      have p3 : ((w7.setCell ⟨w.heap.size, 0, none⟩ (.int .u8 (k.toNat : Int))).setCell ⟨w.heap.size, 1, none⟩ (.slice A7 (n - 9) c7)).cell? ⟨w.heap.size, 1, none⟩ = some (.slice A7 (n - 9) c7) := hP8.cell 1
      have hO8 := ((hO7.other (g := w.heap.size) (by simp) 0 (.int .u8 (k.toNat : Int))).other (g := w.heap.size) (by simp) 1 (.slice A7 (n - 9) c7)).less (b2 := w.heap.size) (by simp)
      have hB8 : Below w.heap.size w ((w7.setCell ⟨w.heap.size, 0, none⟩ (.int .u8 (k.toNat : Int))).setCell ⟨w.heap.size, 1, none⟩ (.slice A7 (n - 9) c7)) := ((bt (below_draws hB1 _) hb7).setCell (p := ⟨w.heap.size, 0, none⟩) (Nat.le_refl _) _).setCell (p := ⟨w.heap.size, 1, none⟩) (Nat.le_refl _) _
      refine bodyPost_ret (v := .tuple #[.agg #[.int .u8 (k.toNat : Int), .slice A7 (n - 9) c7], .nilIface]) (by simp [results, Tryz.results86, go_sem, p2, p3]) rfl ?_
      rw [R.out]
      simp only
      rw [hsl]
      exact ⟨⟨A7, c7, _, rfl, hO8, .inl ⟨rfl, rfl⟩⟩, hB8⟩
  · have e1 : (IntKind.u64.wrap (s1 : Int) != (s2 : Int)) = true := by rw [ew, bne_iff_ne]; omega
    have e2 : (IntKind.u64.wrap (s1 : Int) == (s2 : Int)) = false := by rw [ew, beq_eq_false_iff_ne]; omega
    have e3 : ¬ (s1 : Int) = (s2 : Int) := by omega
    have R : Hid (r = (0, [], 4)) := by show _ = _; rw [HU.out, if_neg hs]
    clear HU hn hs FC hsub ew hs1
    go_enter Tryz.func86, Tryz.ntmps86
    go_wp2_with fail
    go_quiet ((first
      | (go_at_call 98; exact Calls.quiet_of_same ((FS.out _ (below_draws hB1 _)).mono fun _ _ h => ⟨h.1, h.2.symm⟩))
      | (go_at_call 129; exact Calls.quiet_of_same ((FT.out _ (below_draws hB1 _)).mono fun _ _ h => ⟨h.1, h.2.symm⟩))))
    rename_i nq _ _
    have hPq := Blk.drew hP nq
    have f0 := hPq.free 0
    have f1 := hPq.free 1
    have p0 := hPq.cell 0
    have p1 := hPq.cell 1
    have hBq := below_draws hB1 nq
    go_wp2_with fail
    have hP8 := (hPq.set 0 (.int .u8 0)).set 1 (.slice none 0 0)
    have hB8 := (hBq.setCell (p := ⟨w.heap.size, 0, none⟩) (Nat.le_refl _) (.int .u8 0)).setCell (p := ⟨w.heap.size, 1, none⟩) (Nat.le_refl _) (.slice none 0 0)
    generalize (((w.alloc (.cells #[.int .u8 0, .slice none 0 0] 99)).drewN nq).setCell ⟨w.heap.size, 0, none⟩ (.int .u8 0)).setCell ⟨w.heap.size, 1, none⟩ (.slice none 0 0) = W8 at hP8 hB8 ⊢
    have p2 : W8.cell? ⟨w.heap.size, 0, none⟩ = some (.int .u8 0) := hP8.cell 0
    have p3 : W8.cell? ⟨w.heap.size, 1, none⟩ = some (.slice none 0 0) := hP8.cell 1
    refine bodyPost_ret (v := .tuple #[.agg #[.int .u8 0, .slice none 0 0], .iface 188 (.int .i64 4)]) (by simp [results, Tryz.results86, go_sem, p2, p3]) rfl ?_
    rw [R.out]
    exact ⟨⟨none, 0, _, rfl, OwnB.nil _ _, .inr ⟨rfl, rfl⟩⟩, hB8⟩
end Go.Proofs.YtpjleeeligahaaaGreatDoor
