/-
  WHAT IS PROVED: what package roster tells of lasts: isNode, last, Ask, Next; the document's Ask. Conditions: those typed in each theorem.
-/
import Derived.Test.YtkfhkfddhijkcaaGQ5
import Derived.Lib.Hide
import Derived.Deep.Cut
import Derived.Shelf.Abstract
import Derived.Outline
import Derived.BigRegion
import Derived.BigQuiet
import Derived.Deep.QuietTactic
import Derived.RowKitTokens
import Derived.WalkKit
namespace Go.Proofs.Ytkfhkfddhijkcaa
open Go.RowKit

theorem en_spinney_roster_isNode : ∀ args w, (callFunc 125 args).run Try.prog w = .ok (.enter 125 args) w := enters_of Try.func125 (by kernel_rfl) rfl
theorem en_spinney_roster_last : ∀ args w, (callFunc 106 args).run Try.prog w = .ok (.enter 106 args) w := enters_of Try.func106 (by kernel_rfl) rfl
theorem en_spinney_roster_Ask : ∀ args w, (callFunc 72 args).run Try.prog w = .ok (.enter 72 args) w := enters_of Try.func72 (by kernel_rfl) rfl
theorem en_spinney_roster_Of : ∀ args w, (callFunc 107 args).run Try.prog w = .ok (.enter 107 args) w := enters_of Try.func107 (by kernel_rfl) rfl
theorem en_spinney_roster_Left : ∀ args w, (callFunc 70 args).run Try.prog w = .ok (.enter 70 args) w := enters_of Try.func70 (by kernel_rfl) rfl
theorem en_spinney_spinneyref13_Of : ∀ args w, (callFunc 17 args).run Try.prog w = .ok (.enter 17 args) w := enters_of Try.func17 (by kernel_rfl) rfl
theorem en_spinney_spinneyref13_Ask : ∀ args w, (callFunc 77 args).run Try.prog w = .ok (.enter 77 args) w := enters_of Try.func77 (by kernel_rfl) rfl
theorem en_spinney_spinneyref13_Left : ∀ args w, (callFunc 23 args).run Try.prog w = .ok (.enter 23 args) w := enters_of Try.func23 (by kernel_rfl) rfl

/-- Is it a node's number? -/
def nodeB (n : Int) : Bool := decide (0 ≤ n) && decide (n < 12)
/-- A device's last one. -/
def lastI (l : List Int) (n : Int) : Int := bif nodeB n then gI l n.toNat else 0
def Sml (l : List Int) : Prop := l.length = 12 ∧ ∀ j, 0 ≤ gI l j ∧ gI l j ≤ 1000
def askI (l : List Int) (dev seq : Int) : Int := bif decide (seq ≤ lastI l dev) then 6 else bif decide (lastI l dev + 1 < seq) then 15 else 0
theorem lastI_sml {l : List Int} (h : Sml l) (n : Int) : 0 ≤ lastI l n ∧ lastI l n ≤ 1000 := by
  unfold lastI
  cases nodeB n with
  | false => exact ⟨Int.le_refl _, show (0 : Int) ≤ 1000 by decide⟩
  | true => exact h.2 _
set_option maxRecDepth 100000 in
set_option maxHeartbeats 4000000 in
theorem isNode_any (n : Int) (w : World) : Calls Try.prog 125 #[.int .i64 n] w fun e w' => e = .returned (.bool (nodeB n)) ∧ w' = w := by
  go_enter Try.func125, Try.ntmps125
  go_upto_region 1 with fail
  refine wp_region_lit ?_
  refine fs_start (fun W => W = w) (rfl) ?_
  generalize ha : Act.mk _ _ = a0
  have hn : a0.tmps.size = 9 := by rw [← ha]; kernel_rfl
  have h0 : (fr a0 []).eval (.tmp 0) = .int .i64 n := by rw [← ha]; kernel_rfl
  refine fs_know hn rfl h0 ?_
  clear h0
  refine s_mv hn ?_
  refine s_geq hn ?_
  refine s_mv hn ?_
  refine s_mv hn ?_
  refine s_lss hn ?_
  refine s_an hn ?_
  refine s_as hn ?_
  refine fs_end (fun w2 hS => ?_)
  clear hn
  subst ha
  dsimp only [fr, cnd, Act.put, cond_true]
  simp only [List.setIfInBounds_toArray, List.set_cons_zero, List.set_cons_succ]
  subst hS
  go_wp2_with fail
  go_ret
  exact ⟨rfl, rfl⟩
set_option maxRecDepth 100000 in
set_option maxHeartbeats 4000000 in
theorem last_any (l : List Int) (n : Int) (w : World) (hl : l.length = 12) : Calls Try.prog 106 #[.agg (liA l), .int .i64 n] w fun e w' => e = .returned (.int .i64 (lastI l n)) ∧ Below w.heap.size w w' := by
  have hX0 := blk_new w (liA l) 29
  have hB := b0 w (.cells (liA l) 29)
  have hzz : (w.alloc (.cells (liA l) 29)).heap.size = w.heap.size + 1 := by simp
  go_enter Try.func106, Try.ntmps106
  go_upto_region 1 with fail
  generalize (w.alloc (.cells (liA l) 29)) = W0 at hX0 hB hzz ⊢
  generalize hb : w.heap.size = b at hX0 hB hzz ⊢
  have HC := kp_c (w0 := W0) fun W _ => same_c (isNode_any n W)
  refine wp_region_lit ?_
  refine fs_start (Kp W0) (Kp.refl _) ?_
  generalize ha : Act.mk _ _ = a0
  have hn : a0.tmps.size = 11 := by rw [← ha]; kernel_rfl
  have h1 : (fr a0 []).eval (.tmp 1) = .int .i64 n := by rw [← ha]; kernel_rfl
  refine fs_know hn rfl h1 ?_
  clear h1
  refine s_mv hn ?_
  refine s_callt hn ?_ (he := en_spinney_roster_isNode)
  refine s_nt hn ?_
  refine fs_end (fun w2 hS => ?_)
  clear hn
  subst ha
  dsimp only [fr, cnd, Act.put, cond_true]
  simp only [List.setIfInBounds_toArray, List.set_cons_zero, List.set_cons_succ]
  have hX := hS.blk hX0
  have hB2 := hB.trans (hS.below.mono (by omega))
  clear HC hX0 hB hS
  cases hc : nodeB n with
  | false =>
    have R : Hid (lastI l n = 0) := by show lastI l n = 0; unfold lastI; rw [hc]; rfl
    clear hc hX
    go_wp2_with fail
    go_ret
    exact ⟨by rw [R.out]; rfl, by first | exact hB2 | (rw [hb]; exact hB2)⟩
  | true =>
    have R : Hid (lastI l n = gI l n.toNat) := by show lastI l n = _; unfold lastI; rw [hc]; rfl
    have h2 : 0 ≤ n ∧ n < 12 := by unfold nodeB at hc; simpa using hc
    clear hc
    obtain ⟨k, rfl⟩ : ∃ k : Nat, n = (k : Int) := ⟨n.toNat, by omega⟩
    have hk : k < 12 := by omega
    have q := li_cell hX (j := k) (by omega)
    have ix := ix_liL w2 b k hk
    clear h2 hX
    rw [Int.toNat_natCast] at R
    go_wp2_with fail
    go_ret
    exact ⟨by rw [R.out]; rfl, by first | exact hB2 | (rw [hb]; exact hB2)⟩
theorem id_f0 (W : World) (b : Nat) : (Instr.fieldAt 32 (.pointer (some ⟨b, 0, none⟩)) 0).run Try.prog W = .ok (.pointer (some ⟨b, 0, none⟩)) W := by kernel_rfl
theorem id_f1 (W : World) (b : Nat) : (Instr.fieldAt 32 (.pointer (some ⟨b, 0, none⟩)) 1).run Try.prog W = .ok (.pointer (some ⟨b, 1, none⟩)) W := by kernel_rfl
set_option maxRecDepth 100000 in
set_option maxHeartbeats 4000000 in
theorem ask_any (l : List Int) (dev seq : Int) (w : World) (hl : Sml l) : Calls Try.prog 72 #[.agg (liA l), .agg #[.int .i64 dev, .int .i64 seq]] w fun e w' => e = .returned (.int .i64 (askI l dev seq)) ∧ Below w.heap.size w w' := by
  have hX0 := blk_new w (liA l) 29
  replace hX0 := hX0.alloc (.cells #[.int .i64 dev, .int .i64 seq] 32)
  have hz1 : (w.alloc (.cells (liA l) 29)).heap.size = w.heap.size + 1 := by simp
  have hX1 := blk_new (w.alloc (.cells (liA l) 29)) #[.int .i64 dev, .int .i64 seq] 32
  rw [hz1] at hX1
  have hB := ba (b0 w (.cells (liA l) 29)) (.cells #[.int .i64 dev, .int .i64 seq] 32)
  have hzz : ((w.alloc (.cells (liA l) 29)).alloc (.cells #[.int .i64 dev, .int .i64 seq] 32)).heap.size = w.heap.size + 2 := by simp
  go_enter Try.func72, Try.ntmps72
  go_upto_region 1 with fail
  generalize ((w.alloc (.cells (liA l) 29)).alloc (.cells #[.int .i64 dev, .int .i64 seq] 32)) = W0 at hX0 hX1 hB hzz ⊢
  (try simp only [hz1])
  clear hz1
  generalize hb : w.heap.size = b at hX0 hX1 hB hzz ⊢
  have HC := kp_c (w0 := W0) fun W _ => last_any l dev W hl.1
  have HL : ∀ W, Kp W0 W → (Instr.loadAt 29 (.pointer (some ⟨b, 0, none⟩))).run Try.prog W = .ok (.agg (liA l)) W := fun W h => ld_liL (h.blk hX0) hl.1
  have H0 : ∀ W, Kp W0 W → (Instr.fieldAt 32 (.pointer (some ⟨b + 1, 0, none⟩)) 0).run Try.prog W = .ok (.pointer (some ⟨b + 1, 0, none⟩)) W := fun W _ => id_f0 W (b + 1)
  have H1 : ∀ W, Kp W0 W → (Instr.loadAt 3 (.pointer (some ⟨b + 1, 0, none⟩))).run Try.prog W = .ok (.int .i64 dev) W := fun W h => load_int ((h.blk hX1).cell 0)
  refine wp_region_lit ?_
  refine fs_start (Kp W0) (Kp.refl _) ?_
  generalize ha : Act.mk _ _ = a0
  have hn : a0.tmps.size = 21 := by rw [← ha]; kernel_rfl
  have h2 : (fr a0 []).eval (.tmp 2) = .pointer (some ⟨b, 0, none⟩) := by rw [← ha]; kernel_rfl
  refine fs_know hn rfl h2 ?_
  clear h2
  have h3 : (fr a0 [(2, true, .pointer (some ⟨b, 0, none⟩))]).eval (.tmp 3) = .pointer (some ⟨b + 1, 0, none⟩) := by rw [← ha]; kernel_rfl
  refine fs_know hn rfl h3 ?_
  clear h3
  refine s_ld hn ?_
  refine s_fd hn ?_
  refine s_ld hn ?_
  refine s_calltt hn ?_ (he := en_spinney_roster_last)
  refine s_as hn ?_
  refine fs_end (fun w2 hS => ?_)
  clear hn
  subst ha
  dsimp only [fr, cnd, Act.put, cond_true]
  simp only [List.setIfInBounds_toArray, List.set_cons_zero, List.set_cons_succ]
  have hX := hS.blk hX1
  have hB2 := hB.trans (hS.below.mono (by omega))
  have hs := lastI_sml hl dev
  clear HC HL H0 H1 hX0 hX1 hB hS
  have HR : Hid (askI l dev seq = bif decide (seq ≤ lastI l dev) then 6 else bif decide (lastI l dev + 1 < seq) then 15 else 0) := by show askI l dev seq = _; rfl
  generalize lastI l dev = x at hs HR ⊢
  have wr : IntKind.i64.wrap (x + 1) = x + 1 := by unfold IntKind.wrap; simp [IntKind.bits, IntKind.signed]; omega
  have q := hX.cell 1
  have fa := id_f1 w2 (b + 1)
  clear hs hX
  by_cases h1 : seq ≤ x
  · have R : Hid (askI l dev seq = 6) := by show askI l dev seq = _; rw [HR.out, decide_eq_true h1]; rfl
    clear HR
    go_wp2_with fail
    go_ret
    exact ⟨by rw [R.out]; rfl, by first | exact hB2 | (rw [hb]; exact hB2)⟩
  · by_cases h2 : x + 1 < seq
    · have R : Hid (askI l dev seq = 15) := by show askI l dev seq = _; rw [HR.out, decide_eq_false h1, decide_eq_true h2]; rfl
      clear HR
      go_wp2_with fail
      go_ret
      exact ⟨by rw [R.out]; rfl, by first | exact hB2 | (rw [hb]; exact hB2)⟩
    · have R : Hid (askI l dev seq = 0) := by show askI l dev seq = _; rw [HR.out, decide_eq_false h1, decide_eq_false h2]; rfl
      clear HR
      go_wp2_with fail
      go_ret
      exact ⟨by rw [R.out]; rfl, by first | exact hB2 | (rw [hb]; exact hB2)⟩
/-! The document's. -/
set_option maxRecDepth 100000 in
set_option maxHeartbeats 4000000 in
theorem refAsk_any (l : List Int) (k : Nat) (seq : Int) (w : World) (hl : Sml l) (hk : k < 12) (hq : -1000 ≤ seq ∧ seq ≤ 1000) : Calls Try.prog 77 #[.agg (liA l), .agg #[.int .i64 (k : Int), .int .i64 seq]] w fun e w' => e = .returned (.int .i64 (askI l k seq)) ∧ Below w.heap.size w w' := by
  have hX0 := blk_new w (liA l) 28
  replace hX0 := hX0.alloc (.cells #[.int .i64 (k : Int), .int .i64 seq] 32)
  have hz1 : (w.alloc (.cells (liA l) 28)).heap.size = w.heap.size + 1 := by simp
  have hX1 := blk_new (w.alloc (.cells (liA l) 28)) #[.int .i64 (k : Int), .int .i64 seq] 32
  rw [hz1] at hX1
  have hB := ba (b0 w (.cells (liA l) 28)) (.cells #[.int .i64 (k : Int), .int .i64 seq] 32)
  have hzz : ((w.alloc (.cells (liA l) 28)).alloc (.cells #[.int .i64 (k : Int), .int .i64 seq] 32)).heap.size = w.heap.size + 2 := by simp
  go_enter Try.func77, Try.ntmps77
  go_upto_region 1 with fail
  generalize ((w.alloc (.cells (liA l) 28)).alloc (.cells #[.int .i64 (k : Int), .int .i64 seq] 32)) = W0 at hX0 hX1 hB hzz ⊢
  (try simp only [hz1])
  clear hz1
  generalize hb : w.heap.size = b at hX0 hX1 hB hzz ⊢
  have wr : IntKind.i64.wrap (seq - 1) = seq - 1 := by unfold IntKind.wrap; simp [IntKind.bits, IntKind.signed]; omega
  have H0 : ∀ W, Kp W0 W → (Instr.fieldAt 32 (.pointer (some ⟨b + 1, 0, none⟩)) 0).run Try.prog W = .ok (.pointer (some ⟨b + 1, 0, none⟩)) W := fun W _ => id_f0 W (b + 1)
  have H1 : ∀ W, Kp W0 W → (Instr.fieldAt 32 (.pointer (some ⟨b + 1, 0, none⟩)) 1).run Try.prog W = .ok (.pointer (some ⟨b + 1, 1, none⟩)) W := fun W _ => id_f1 W (b + 1)
  have H2 : ∀ W, Kp W0 W → (Instr.loadAt 3 (.pointer (some ⟨b + 1, 0, none⟩))).run Try.prog W = .ok (.int .i64 (k : Int)) W := fun W h => load_int ((h.blk hX1).cell 0)
  have H3 : ∀ W, Kp W0 W → (Instr.loadAt 3 (.pointer (some ⟨b + 1, 1, none⟩))).run Try.prog W = .ok (.int .i64 seq) W := fun W h => load_int ((h.blk hX1).cell 1)
  have H4 : ∀ W, Kp W0 W → (Instr.indexAt 28 (.pointer (some ⟨b, 0, none⟩)) (.int .i64 (k : Int))).run Try.prog W = .ok (.pointer (some ⟨b, k, none⟩)) W := fun W _ => ix_liA W b k hk
  have H5 : ∀ W, Kp W0 W → (Instr.loadAt 3 (.pointer (some ⟨b, k, none⟩))).run Try.prog W = .ok (.int .i64 (gI l k)) W := fun W h => load_int (li_cell (h.blk hX0) (by rw [hl.1]; exact hk))
  have H6 : ∀ W, Kp W0 W → ((do eqGuard .sub 3 (.tmp 13) (.const (.int .i64 1)) (.int .i64 seq) (.int .i64 1); binOp .sub 3 (.int .i64 seq) (.int .i64 1)) : Sem Value).run Try.prog W = .ok (.int .i64 (seq - 1)) W := fun W _ => by
    clear H0 H1 H2 H3 H4 H5
    go_simp
  refine fc_start (S := Kp W0) (by kernel_rfl) (Kp.drew _) ?_
  generalize ha : Act.mk _ _ = a0
  have hn : a0.tmps.size = 20 := by rw [← ha]; kernel_rfl
  have h2 : (fr a0 []).eval (.tmp 2) = .pointer (some ⟨b, 0, none⟩) := by rw [← ha]; kernel_rfl
  refine fc_know hn rfl h2 ?_
  clear h2
  have h3 : (fr a0 [(2, true, .pointer (some ⟨b, 0, none⟩))]).eval (.tmp 3) = .pointer (some ⟨b + 1, 0, none⟩) := by rw [← ha]; kernel_rfl
  refine fc_know hn rfl h3 ?_
  clear h3
  refine c_fd 0 hn ?_
  refine c_ld 1 hn ?_
  refine c_fd 2 hn ?_
  refine c_ld 3 hn ?_
  refine c_ix 4 hn ?_
  refine c_ld 5 hn ?_
  refine c_leq2 6 hn ?_
  refine fc_end (fun w2 hS => ?_)
  clear hn
  subst ha
  dsimp only [fr, cnd, Act.put, cond_true]
  simp only [List.setIfInBounds_toArray, List.set_cons_zero, List.set_cons_succ]
  have e : lastI l k = gI l k := by
    unfold lastI nodeB
    rw [decide_eq_true (by omega), decide_eq_true (by omega), Int.toNat_natCast]
    rfl
  have HR : Hid (askI l k seq = bif decide (seq ≤ gI l k) then 6 else bif decide (gI l k + 1 < seq) then 15 else 0) := by show askI l k seq = _; unfold askI; rw [e]
  clear e wr
  have hB0 := hB
  have hB2 : Below w.heap.size w w2 := by rw [hb]; exact hB.trans (hS.below.mono (by omega))
  clear hB
  generalize gI l k = x at HR H5 ⊢
  by_cases h1 : seq ≤ x
  · have R : Hid (askI l k seq = 6) := by show askI l k seq = _; rw [HR.out, decide_eq_true h1]; rfl
    clear H0 H1 H2 H3 H4 H5 H6 hX0 hX1 hS HR
    go_wp2_with fail
    go_ret
    exact ⟨by rw [R.out]; rfl, hB2⟩
  go_upto_region 3 with fail
  refine fc_start (S := Kp W0) (by kernel_rfl) (hS.drews) ?_
  generalize ha : Act.mk _ _ = a0
  have hn : a0.tmps.size = 20 := by rw [← ha]; kernel_rfl
  have h2 : (fr a0 []).eval (.tmp 2) = .pointer (some ⟨b, 0, none⟩) := by rw [← ha]; kernel_rfl
  refine fc_know hn rfl h2 ?_
  clear h2
  have h3 : (fr a0 [(2, true, .pointer (some ⟨b, 0, none⟩))]).eval (.tmp 3) = .pointer (some ⟨b + 1, 0, none⟩) := by rw [← ha]; kernel_rfl
  refine fc_know hn rfl h3 ?_
  clear h3
  refine c_fd 0 hn ?_
  refine c_ld 1 hn ?_
  refine c_bc 2 hn ?_
  refine c_fd 3 hn ?_
  refine c_ld 4 hn ?_
  refine c_ix 5 hn ?_
  refine c_ld 6 hn ?_
  refine c_gtr2 7 hn ?_
  refine fc_end (fun w3 hS3 => ?_)
  clear hn
  subst ha
  dsimp only [fr, cnd, Act.put, cond_true]
  simp only [List.setIfInBounds_toArray, List.set_cons_zero, List.set_cons_succ]
  have hB3 : Below w.heap.size w w3 := by rw [hb]; exact hB0.trans (hS3.below.mono (by omega))
  clear H0 H1 H2 H3 H4 H5 H6 hX0 hX1 hS hB2 hS3 hB0
  by_cases h2 : x + 1 < seq
  · have h3 : x < seq - 1 := by omega
    have R : Hid (askI l k seq = 15) := by show askI l k seq = _; rw [HR.out, decide_eq_false h1, decide_eq_true h2]; rfl
    clear HR h2 h1
    go_wp2_with fail
    go_ret
    exact ⟨by rw [R.out]; rfl, by first | exact hB3 | (rw [← hb]; exact hB3)⟩
  · have h3 : ¬ x < seq - 1 := by omega
    have R : Hid (askI l k seq = 0) := by show askI l k seq = _; rw [HR.out, decide_eq_false h1, decide_eq_false h2]; rfl
    clear HR h2 h1
    go_wp2_with fail
    go_ret
    exact ⟨by rw [R.out]; rfl, by first | exact hB3 | (rw [← hb]; exact hB3)⟩
end Go.Proofs.Ytkfhkfddhijkcaa
