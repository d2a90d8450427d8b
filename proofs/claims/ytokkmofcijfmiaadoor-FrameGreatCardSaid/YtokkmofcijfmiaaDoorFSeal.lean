/-
  WHAT IS PROVED: package frame's Seal: what it answers, as the chapter says. Conditions: those typed in each theorem.
-/
import Derived.Test.YtokkmofcijfmiaaDoorGQ3
import Derived.Test.YtokkmofcijfmiaaDoorGQ4
import Derived.Deep.Cut
import Derived.Test.YtokkmofcijfmiaaDoorGQ6
import Derived.Laws.MakeOwn
namespace Go.Proofs.YtokkmofcijfmiaaDoor
open Go.RowKit

theorem run_make0 (W : World) (n : Nat) (z : Int) (hz : z = (n : Int)) (hn : n ≤ 1000000) :
    (Instr.makeSlice 34 (.int .i64 0) (.int .i64 z)).run Tryd.prog W = .ok (.slice (some ⟨W.heap.size, 0, none⟩) 0 n) (W.alloc (.cells (madeCells #[.int .u8 0] n) 5)) := by
  obtain ⟨i0, hi0, hz0, hz1, hz2⟩ := info_parts byt_info
  subst hz
  have h := run_make W 34 5 i0 (.int .u8 0) Tryd.underlying34 hi0 hz0 .i64 .i64 0 (n : Int) (by omega) (by omega) (by rw [hz2]; omega) (by omega)
  rw [Int.toNat_natCast, hz1, Nat.mul_one] at h
  exact h
/-- Three bytes of a number; four of them. -/
theorem wd_three {n : Nat} (h : n < 16777216) : wdB 3 n = [UInt8.ofNat (n / 65536), UInt8.ofNat (n / 256 % 256), UInt8.ofNat (n % 256)] := by
  show [UInt8.ofNat (n / 256 ^ 2 % 256), UInt8.ofNat (n / 256 ^ 1 % 256), UInt8.ofNat (n / 256 ^ 0 % 256)] = _
  rw [show n / 256 ^ 2 % 256 = n / 65536 by omega, show n / 256 ^ 1 % 256 = n / 256 % 256 by omega, show n / 256 ^ 0 % 256 = n % 256 by omega]
theorem wd_four {n : Nat} (h : n < 4294967296) : wdB 4 n = fourB n := by
  show [UInt8.ofNat (n / 256 ^ 3 % 256), UInt8.ofNat (n / 256 ^ 2 % 256), UInt8.ofNat (n / 256 ^ 1 % 256), UInt8.ofNat (n / 256 ^ 0 % 256)] = _
  unfold fourB
  rw [show n / 256 ^ 3 % 256 = n / 16777216 by omega, show n / 256 ^ 2 % 256 = n / 65536 % 256 by omega, show n / 256 ^ 1 % 256 = n / 256 % 256 by omega, show n / 256 ^ 0 % 256 = n % 256 by omega]
theorem ownMade0 (w : World) (n : Nat) (hn : n ≤ 1000000) : OwnB w.heap.size (w.alloc (.cells (madeCells #[.int .u8 0] n) 5)) (some ⟨w.heap.size, 0, none⟩) 0 n [] := by
  refine ⟨rfl, .inr ⟨w.heap.size, n, madeCells #[.int .u8 0] n, rfl, Nat.le_refl _, ?_, Nat.zero_le _, by unfold maxLen; omega, ?_, rfl⟩⟩
  · exact blk_new w _ _
  · simp [madeCells]
theorem x_mk0 {w w2 : World} {ρ : Operand → Value} {d : Option Tmp} {i : Nat} {z : Int} {v : Value} {ty : TypeId} {p : String} {af : Array Edge} {gd : Option (Nat × Bool)} (h : ρ (.tmp i) = .int .i64 z) (hc : ρ (.const (.int .i64 0)) = .int .i64 0) (hr : (Instr.makeSlice 34 (.int .i64 0) (.int .i64 z)).run Tryd.prog w = .ok v w2) : (execOp ρ ⟨d, .makeSlice 34 (.const (.int .i64 0)) (.tmp i), ty, p, af, gd⟩).run Tryd.prog w = .ok (.value v) w2 := by
  unfold execOp
  simp only [h, hc, Sem.run_bind, hr, Sem.run_pure, Result.andThen_ok]
theorem bs2B (k : Int) (w : World) : (Instr.buildSlice 34 2 #[(0, .int .u8 229), (1, .int .u8 k)]).run Tryd.prog w = .ok (.slice (some ⟨w.heap.size, 0, none⟩) 2 2) (w.alloc (.cells #[.int .u8 229, .int .u8 k] 5)) := by kernel_rfl
theorem x_bs2 {w : World} {ρ : Operand → Value} {d : Option Tmp} {i : Nat} {k : Int} {ty : TypeId} {p : String} {af : Array Edge} {gd : Option (Nat × Bool)} (h : ρ (.tmp i) = .int .u8 k) (hc : ρ (.const (.int .u8 229)) = .int .u8 229) : (execOp ρ ⟨d, .buildSlice 34 2 #[(0, .const (.int .u8 229)), (1, .tmp i)], ty, p, af, gd⟩).run Tryd.prog w = .ok (.value (.slice (some ⟨w.heap.size, 0, none⟩) 2 2)) (w.alloc (.cells #[.int .u8 229, .int .u8 k] 5)) := by
  unfold execOp
  simp only [List.map_toArray, List.map_cons, List.map_nil, h, hc, Sem.run_bind, bs2B, Sem.run_pure, Result.andThen_ok]
theorem add_5 (i : Nat) (W : World) (n : Nat) (h : n ≤ 1000000) : ((do eqGuard .add 3 (.const (.int .i64 5)) (.tmp i) (.int .i64 5) (.int .i64 (n : Int)); binOp .add 3 (.int .i64 5) (.int .i64 (n : Int))) : Sem Value).run Tryd.prog W = .ok (.int .i64 (5 + (n : Int))) W := by
  have h1 : (n : Int) ≤ 1000000 := by omega
  go_simp
  rw [IntKind.wrap_i64]
  omega
theorem add_4 (i : Nat) (W : World) (n : Nat) (h : n ≤ 1000000) : ((do eqGuard .add 3 (.tmp i) (.const (.int .i64 4)) (.int .i64 (5 + (n : Int))) (.int .i64 4); binOp .add 3 (.int .i64 (5 + (n : Int))) (.int .i64 4)) : Sem Value).run Tryd.prog W = .ok (.int .i64 (5 + (n : Int) + 4)) W := by
  have h1 : (n : Int) ≤ 1000000 := by omega
  go_simp
  rw [IntKind.wrap_i64]
  omega
theorem bel_unF {b : Nat} {w w' : World} (h : Below b w.drew w') : Below b w w' := ⟨h.os, h.tape, h.output, h.size, h.block⟩
theorem fpc0 (W : World) (b : Nat) : (Instr.fieldAt 38 (.pointer (some ⟨b, 0, none⟩)) 0).run Tryd.prog W = .ok (.pointer (some ⟨b, 0, none⟩)) W := by kernel_rfl
theorem fpc1 (W : World) (b : Nat) : (Instr.fieldAt 38 (.pointer (some ⟨b, 0, none⟩)) 1).run Tryd.prog W = .ok (.pointer (some ⟨b, 1, none⟩)) W := by kernel_rfl
theorem ld_u8 {W : World} {a : Addr} {x : Int} (h : W.cell? a = some (.int .u8 x)) : (Instr.loadAt 5 (.pointer (some a))).run Tryd.prog W = .ok (.int .u8 x) W := by go_simp
set_option maxRecDepth 100000 in
set_option maxHeartbeats 4000000 in
theorem seal_any (k : UInt8) (A : Option Addr) (n c : Nat) (bb : List UInt8) (w : World) (hL : LaidF w) (hn : bb.length = n) (hm : n ≤ 100000) (hr : RdB w.heap.size w A bb) :
    Calls Tryd.prog 18 #[.agg #[.int .u8 (k.toNat : Int), .slice A n c]] w fun e w' => (∃ (A' : Option Addr) (c' : Nat), e = .returned (.tuple #[.slice A' (n + 9) c', .int .i64 0]) ∧ OwnB w.heap.size w' A' (n + 9) c' (sealL k bb)) ∧ Below w.heap.size w w' := by
  obtain ⟨i0, hi0, hz0, hz1_, hz2⟩ := info_parts byt_info
  have HN := Lib.hid hn
  have g1 : (n : Int) ≤ 100000 := by omega
  have g2 : ¬ (100000 : Int) < (n : Int) := by omega
  have hB1 := b0 w (.cells #[.int .u8 (k.toNat : Int), .slice A n c] 38)
  have hX0 := blk_new w #[.int .u8 (k.toNat : Int), .slice A n c] 38
  have hR1 := hr.keep hB1 (Nat.le_refl _)
  have hk := k.toNat_lt
  have hz1 : (w.alloc (.cells #[.int .u8 (k.toNat : Int), .slice A n c] 38)).heap.size = w.heap.size + 1 := by simp
  have HBY : Hid ([229, k] ++ wdB 3 n ++ bb = bodyL k bb) := by show _ = _; rw [wd_three (by omega)]; unfold bodyL; rw [HN.out]; rfl
  have mk := fun W => run_make0 W (n + 9) (5 + (n : Int) + 4) (by omega) (by omega)
  have c1 : (w.alloc (.cells #[.int .u8 (k.toNat : Int), .slice A n c] 38)).cell? ⟨w.heap.size, 1, none⟩ = some (.slice A n c) := hX0.cell 1
  clear hn hr
  go_enter Tryd.func18, Tryd.ntmps18
  go_upto_region 4 with fail
  clear c1
  generalize w.alloc (.cells #[.int .u8 (k.toNat : Int), .slice A n c] 38) = W0 at hB1 hX0 hR1 hz1 ⊢
  generalize hb : w.heap.size = b at hB1 hX0 hR1 hz1 ⊢
  have f0 : ∀ W, (fun W => Blk W b #[.int .u8 (k.toNat : Int), .slice A n c] 38) W → _ := fun W _ => fpc0 W b
  have l0 : ∀ W, (fun W => Blk W b #[.int .u8 (k.toNat : Int), .slice A n c] 38) W → _ := fun W h => ld_u8 (h.cell 0)
  refine fh_start (S := (fun W => Blk W b #[.int .u8 (k.toNat : Int), .slice A n c] 38)) (by kernel_rfl) (hX0) (fun hS => ?_)
  generalize ha : Act.mk _ _ = a0
  have hn : a0.tmps.size = 36 := by rw [← ha]; kernel_rfl
  have h1 : (fr a0 []).eval (.tmp 1) = .pointer (some ⟨b, 0, none⟩) := by rw [← ha]; kernel_rfl
  refine fh_know hn rfl h1 ?_
  clear h1
  have h4 : (fr a0 [(1, true, .pointer (some ⟨b, 0, none⟩))]).eval (.tmp 4) = .int .i64 (n : Int) := by rw [← ha]; kernel_rfl
  refine fh_know hn rfl h4 ?_
  clear h4
  refine h_mv 0 hn hS ?_
  refine h_op 1 hn hS (fun W _ hk => x_cbC (lk_at hk (i := 15) rfl (fun _ => rfl) rfl) rfl (add_5 _ W n (by omega))) ?_
  refine h_bc 2 hn hS ?_ (hx := fun W _ => add_4 _ W n (by omega))
  refine h_fd 4 hn hS ?_
  refine h_ld 5 hn hS ?_
  have hwd : W0.drew.heap.size = b + 1 := hz1
  refine fh_two (i := 3) (j := 6) (by kernel_rfl) ?_ ?_
  · have ba := b0 W0.drew (.cells (madeCells #[.int .u8 0] (n + 9)) 5)
    have hOm1 := ownMade0 W0.drew (n + 9) (by omega)
    have hXa : (fun W => Blk W b #[.int .u8 (k.toNat : Int), .slice A n c] 38) (W0.drew.alloc (.cells (madeCells #[.int .u8 0] (n + 9)) 5)) := hS.keep ba
    refine one_valx (d := 18) hn rfl (fun hk => x_mk0 (lk_at hk (i := 17) rfl (fun _ => rfl) rfl) rfl (mk _)) hXa ?_ rfl rfl rfl
    rw [hwd] at hOm1 ba ⊢
    generalize W0.drew.alloc (.cells (madeCells #[.int .u8 0] (n + 9)) 5) = v1 at hOm1 ba hXa ⊢
    have bb2 := b0 v1 (.cells #[.int .u8 229, .int .u8 (k.toNat : Int)] 5)
    have hz2' := ba.size
    have hX2 : (fun W => Blk W b #[.int .u8 (k.toNat : Int), .slice A n c] 38) (v1.alloc (.cells #[.int .u8 229, .int .u8 (k.toNat : Int)] 5)) := hXa.keep bb2
    refine fh_valx 6 (d := 21) hn rfl (fun hk => x_bs2 (lk_at hk (i := 20) rfl (fun _ => rfl) rfl) rfl) hX2 ?_ rfl rfl (by kernel_rfl) rfl
    have hOl := (OwnB.lit v1 (base := b + 1) #[.int .u8 229, .int .u8 (k.toNat : Int)] [229, k] rfl (n := 2) rfl (by omega) (by unfold maxLen; omega)).rd
    have hOm := hOm1.keep bb2
    have hbs : b + 1 ≤ (v1.alloc (.cells #[.int .u8 229, .int .u8 (k.toNat : Int)] 5)).heap.size := by have := bb2.size; omega
    have hb02 : Below (b + 1) W0 (v1.alloc (.cells #[.int .u8 229, .int .u8 (k.toNat : Int)] 5)) := (bel_unF ba).trans (bb2.mono (by omega))
    generalize v1.heap.size = g3 at hOl ⊢
    generalize v1.alloc (.cells #[.int .u8 229, .int .u8 (k.toNat : Int)] 5) = v2 at hOl hOm hbs hb02 hX2 ⊢
    clear hOm1 bb2 ba hXa
    have hO3 : OwnB (b + 1) v2 (some ⟨b + 1, 0, none⟩) 0 (n + 9) [] := hOm
    have hOl3 : RdB v2.heap.size v2 (some ⟨g3, 0, none⟩) [229, k] := hOl
    obtain ⟨A5, c5, w5, hr5, hO5, hb5, _⟩ := run_apB (P := Tryd.prog) (ty := 34) (base := b + 1) (n := 0) (m := 2) (d := 2) v2 Tryd.underlying34 Tryd.underlying34 hi0 hz0 hz1_ hz2 hO3 hOl3 rfl (by omega) hbs
    have hX5 : (fun W => Blk W b #[.int .u8 (k.toNat : Int), .slice A n c] 38) w5 := (hb5.block b (by omega)).trans hX2
    refine fh_valx 7 (d := 22) hn rfl (fun hk => x_ap (lk_at hk (i := 18) rfl (fun _ => rfl) rfl) (lk_at hk (i := 21) rfl (fun _ => rfl) rfl) hr5) hX5 ?_ rfl rfl (by kernel_rfl) rfl
    refine h_as 8 hn hX5 ?_
    refine fh_end (by kernel_rfl) ?_
    clear hn
    subst ha
    dsimp only [fr, cnd, Act.put, cond_true]
    simp only [List.setIfInBounds_toArray, List.set_cons_zero, List.set_cons_succ]
    rw [List.nil_append] at hO5
    have hb35 := hb02.trans hb5
    have z5 := hb35.size
    clear hOm hOl hO3 hOl3 hr5 hX2 hb02 hb5 f0 l0
    go_wp2_with fail
    refine (widePut_any (b + 1) A5 2 c5 [229, k] n 3 w5 (.inl hO5) (by omega) (by omega) (by omega) (by omega) (by omega)).mono ?_
    rintro e w5b ⟨⟨A5b, n5, c5b, rfl, hO5b⟩, hb5b, -⟩
    have hn5 : n5 = 5 := by have := hO5b.len; simp [wdB_len] at this; omega
    subst hn5
    have hX5b : Blk w5b b #[.int .u8 (k.toNat : Int), .slice A n c] 38 := (hb5b.block b (by omega)).trans hX5
    have hb35b := hb35.trans hb5b
    have p1 : w5b.cell? ⟨b, 1, none⟩ = some (.slice A n c) := hX5b.cell 1
    have hR5 := hR1.keep hb35b (by omega)
    have z5b := hb35b.size
    clear hO5 hb5b hb35 hX5 z5
    go_wp2_with (at_builtin; refine wpList_apB (base := b + 1) (n := 5) (m := n) (l := [229, k] ++ wdB 3 n) (l2 := bb) (by rfl) _ _ (by rfl) Tryd.underlying34 Tryd.underlying34 hi0 hz0 hz1_ hz2 (by rfl) (by rfl) hO5b hR5 HN.out (n + 5) (by omega) (by omega) (by omega) ?_; intro A6 c6 w6 hO6 hb6 hg6)
    rw [HBY.out] at hO6
    have hb36 := hb35b.trans hb6
    have hB6 : Below b w w6 := hB1.trans (hb36.mono (by omega))
    clear hg6 hO5b hb6 hX5b
    subst hb
    refine (sum_any A6 (n + 5) c6 (bodyL k bb) w6 (hL.keep hB6) hO6.len hO6.rd (by omega)).mono ?_
    rintro e w7 ⟨rfl, rfl⟩
    have hcs := crcL_lt (bodyL k bb)
    generalize hcc : crcL (bodyL k bb) = cs at hcs ⊢
    have HCC := Lib.hid hcc
    clear hcc
    have hcs' : (cs : Int) < 4294967296 := by omega
    have ew : IntKind.u64.wrap (cs : Int) = (cs : Int) := by rw [IntKind.wrap_u64]; omega
    go_wp2_with fail
    try rw [ew]
    refine (widePut_any w.heap.size A6 (n + 5) c6 (bodyL k bb) cs 4 w6 (.inl (hO6.less (by omega))) (by have := hB6.size; omega) (by omega) (by omega) (by omega) (by omega)).mono ?_
    rintro e w8 ⟨⟨A8, n8, c8, rfl, hO8⟩, hb8, -⟩
    have hn8 : n8 = n + 9 := by have := hO8.len; rw [List.length_append, bodyL_len, wdB_len, HN.out] at this; omega
    subst hn8
    rw [wd_four hcs] at hO8
    go_wp2_with fail
    go_ret2
    refine ⟨⟨A8, c8, rfl, ?_⟩, hB6.trans hb8⟩
    unfold sealL
    rw [HCC.out]
    exact hO8
  · have ba := b0 W0.drew (.cells #[.int .u8 229, .int .u8 (k.toNat : Int)] 5)
    have hOl1 := (OwnB.lit W0.drew (base := b + 1) #[.int .u8 229, .int .u8 (k.toNat : Int)] [229, k] rfl (n := 2) rfl (by omega) (by unfold maxLen; omega)).rd
    have hXa : (fun W => Blk W b #[.int .u8 (k.toNat : Int), .slice A n c] 38) (W0.drew.alloc (.cells #[.int .u8 229, .int .u8 (k.toNat : Int)] 5)) := hS.keep ba
    refine one_valx (d := 21) hn rfl (fun hk => x_bs2 (lk_at hk (i := 20) rfl (fun _ => rfl) rfl) rfl) hXa ?_ rfl rfl rfl
    rw [hwd] at hOl1 ba ⊢
    generalize W0.drew.alloc (.cells #[.int .u8 229, .int .u8 (k.toNat : Int)] 5) = v1 at hOl1 ba hXa ⊢
    have bb2 := b0 v1 (.cells (madeCells #[.int .u8 0] (n + 9)) 5)
    have hz2' := ba.size
    have hX2 : (fun W => Blk W b #[.int .u8 (k.toNat : Int), .slice A n c] 38) (v1.alloc (.cells (madeCells #[.int .u8 0] (n + 9)) 5)) := hXa.keep bb2
    refine fh_valx 3 (d := 18) hn rfl (fun hk => x_mk0 (lk_at hk (i := 17) rfl (fun _ => rfl) rfl) rfl (mk _)) hX2 ?_ rfl rfl (by kernel_rfl) rfl
    have hOm := (ownMade0 v1 (n + 9) (by omega)).less (b2 := b + 1) (by omega)
    have hOl := (hOl1.keep bb2 (Nat.le_refl _)).more bb2.size
    have hbs : b + 1 ≤ (v1.alloc (.cells (madeCells #[.int .u8 0] (n + 9)) 5)).heap.size := by have := bb2.size; omega
    have hb02 : Below (b + 1) W0 (v1.alloc (.cells (madeCells #[.int .u8 0] (n + 9)) 5)) := (bel_unF ba).trans (bb2.mono (by omega))
    generalize v1.heap.size = g3 at hOm ⊢
    generalize v1.alloc (.cells (madeCells #[.int .u8 0] (n + 9)) 5) = v2 at hOl hOm hbs hb02 hX2 ⊢
    clear hOl1 bb2 ba hXa
    have hO3 : OwnB (b + 1) v2 (some ⟨g3, 0, none⟩) 0 (n + 9) [] := hOm
    have hOl3 : RdB v2.heap.size v2 (some ⟨b + 1, 0, none⟩) [229, k] := hOl
    obtain ⟨A5, c5, w5, hr5, hO5, hb5, _⟩ := run_apB (P := Tryd.prog) (ty := 34) (base := b + 1) (n := 0) (m := 2) (d := 2) v2 Tryd.underlying34 Tryd.underlying34 hi0 hz0 hz1_ hz2 hO3 hOl3 rfl (by omega) hbs
    have hX5 : (fun W => Blk W b #[.int .u8 (k.toNat : Int), .slice A n c] 38) w5 := (hb5.block b (by omega)).trans hX2
    refine fh_valx 7 (d := 22) hn rfl (fun hk => x_ap (lk_at hk (i := 18) rfl (fun _ => rfl) rfl) (lk_at hk (i := 21) rfl (fun _ => rfl) rfl) hr5) hX5 ?_ rfl rfl (by kernel_rfl) rfl
    refine h_as 8 hn hX5 ?_
    refine fh_end (by kernel_rfl) ?_
    clear hn
    subst ha
    dsimp only [fr, cnd, Act.put, cond_true]
    simp only [List.setIfInBounds_toArray, List.set_cons_zero, List.set_cons_succ]
    rw [List.nil_append] at hO5
    have hb35 := hb02.trans hb5
    have z5 := hb35.size
    clear hOm hOl hO3 hOl3 hr5 hX2 hb02 hb5 f0 l0
    go_wp2_with fail
    refine (widePut_any (b + 1) A5 2 c5 [229, k] n 3 w5 (.inl hO5) (by omega) (by omega) (by omega) (by omega) (by omega)).mono ?_
    rintro e w5b ⟨⟨A5b, n5, c5b, rfl, hO5b⟩, hb5b, -⟩
    have hn5 : n5 = 5 := by have := hO5b.len; simp [wdB_len] at this; omega
    subst hn5
    have hX5b : Blk w5b b #[.int .u8 (k.toNat : Int), .slice A n c] 38 := (hb5b.block b (by omega)).trans hX5
    have hb35b := hb35.trans hb5b
    have p1 : w5b.cell? ⟨b, 1, none⟩ = some (.slice A n c) := hX5b.cell 1
    have hR5 := hR1.keep hb35b (by omega)
    have z5b := hb35b.size
    clear hO5 hb5b hb35 hX5 z5
    go_wp2_with (at_builtin; refine wpList_apB (base := b + 1) (n := 5) (m := n) (l := [229, k] ++ wdB 3 n) (l2 := bb) (by rfl) _ _ (by rfl) Tryd.underlying34 Tryd.underlying34 hi0 hz0 hz1_ hz2 (by rfl) (by rfl) hO5b hR5 HN.out (n + 5) (by omega) (by omega) (by omega) ?_; intro A6 c6 w6 hO6 hb6 hg6)
    rw [HBY.out] at hO6
    have hb36 := hb35b.trans hb6
    have hB6 : Below b w w6 := hB1.trans (hb36.mono (by omega))
    clear hg6 hO5b hb6 hX5b
    subst hb
    refine (sum_any A6 (n + 5) c6 (bodyL k bb) w6 (hL.keep hB6) hO6.len hO6.rd (by omega)).mono ?_
    rintro e w7 ⟨rfl, rfl⟩
    have hcs := crcL_lt (bodyL k bb)
    generalize hcc : crcL (bodyL k bb) = cs at hcs ⊢
    have HCC := Lib.hid hcc
    clear hcc
    have hcs' : (cs : Int) < 4294967296 := by omega
    have ew : IntKind.u64.wrap (cs : Int) = (cs : Int) := by rw [IntKind.wrap_u64]; omega
    go_wp2_with fail
    try rw [ew]
    refine (widePut_any w.heap.size A6 (n + 5) c6 (bodyL k bb) cs 4 w6 (.inl (hO6.less (by omega))) (by have := hB6.size; omega) (by omega) (by omega) (by omega) (by omega)).mono ?_
    rintro e w8 ⟨⟨A8, n8, c8, rfl, hO8⟩, hb8, -⟩
    have hn8 : n8 = n + 9 := by have := hO8.len; rw [List.length_append, bodyL_len, wdB_len, HN.out] at this; omega
    subst hn8
    rw [wd_four hcs] at hO8
    go_wp2_with fail
    go_ret2
    refine ⟨⟨A8, c8, rfl, ?_⟩, hB6.trans hb8⟩
    unfold sealL
    rw [HCC.out]
    exact hO8
set_option maxRecDepth 100000 in
set_option maxHeartbeats 2000000 in
theorem full_any (k : UInt8) (A : Option Addr) (n c : Nat) (w : World) (hL : LaidF w) (hm : 100000 < n) (hm2 : n ≤ 200000) :
    Calls Tryd.prog 18 #[.agg #[.int .u8 (k.toNat : Int), .slice A n c]] w fun e w' => e = .returned (.tuple #[.slice none 0 0, .int .i64 3]) ∧ Below w.heap.size w w' := by
  have g1 : (100000 : Int) < (n : Int) := by omega
  have hB1 := b0 w (.cells #[.int .u8 (k.toNat : Int), .slice A n c] 38)
  have HA := Lib.hid (fun W (h : Below w.heap.size w W) v m (hv : ErrF v m) => fanswer_any v m W (hL.keep h) hv)
  have HV : Hid (ErrF (.iface 76 (.agg #[.int .i64 (n : Nat), .int .i64 3])) 3) := .inr (.inr ⟨_, rfl⟩)
  go_enter Tryd.func18, Tryd.ntmps18
  go_wp2_with fail
  refine (HA.out _ hB1 _ 3 HV.out).mono ?_
  rintro e w4 ⟨rfl, hb4⟩
  have hB4 := bt hB1 hb4
  go_wp2_with fail
  go_ret2
  exact ⟨rfl, hB4⟩
end Go.Proofs.YtokkmofcijfmiaaDoor
