/-
  WHAT IS PROVED: package stamp's Find and Tight. Conditions: those typed in each theorem.
-/
import Derived.Test.YtgbopikhdpmmcaaRoA
import Derived.Test.YtgbopikhdpmmcaaWrIx
import Derived.Test.YtgbopikhdpmmcaaFnC
namespace Go.Proofs.Ytgbopikhdpmmcaa
open Go.RowKit

theorem en_spinney_stamp_Find_1 : ∀ args w, (callFunc 30 args).run Try.prog w = .ok (.enter 30 args) w := enters_of Try.func30 (by kernel_rfl) rfl
theorem en_spinney_stamp_Tight_1 : ∀ args w, (callFunc 32 args).run Try.prog w = .ok (.enter 32 args) w := enters_of Try.func32 (by kernel_rfl) rfl
theorem en_slices_IndexFunc_spinney_api_Write_spinney_api_Write : ∀ args w, (callFunc 29 args).run Try.prog w = .ok (.enter 29 args) w := enters_of Try.func29 (by kernel_rfl) rfl
theorem en_spinney_stamp_pairs : ∀ args w, (callFunc 31 args).run Try.prog w = .ok (.enter 31 args) w := enters_of Try.func31 (by kernel_rfl) rfl
theorem en_spinney_stamp_Find : ∀ args w, (callFunc 23 args).run Try.prog w = .ok (.enter 23 args) w := enters_of Try.func23 (by kernel_rfl) rfl
theorem en_spinney_stamp_Tight : ∀ args w, (callFunc 24 args).run Try.prog w = .ok (.enter 24 args) w := enters_of Try.func24 (by kernel_rfl) rfl

/-- Has it this id? -/
def isId (d q : Int) (x : Wr) : Bool := x.dev == d && x.seq == q
def findGo (p : Wr → Bool) (i : Int) : List Wr → Int
  | [] => -1
  | x :: r => bif p x then i else findGo p (i + 1) r
theorem findGo_no (p : Wr → Bool) : ∀ (ws : List Wr) (i : Int), (∀ x, x ∈ ws → p x = false) → findGo p i ws = -1
  | [], _, _ => rfl
  | x :: r, i, h => by
    unfold findGo
    rw [h x (List.mem_cons_self ..)]
    exact findGo_no p r (i + 1) fun y hy => h y (List.mem_cons_of_mem _ hy)
theorem findGo_at (p : Wr → Bool) : ∀ (ws : List Wr) (i : Int) (k : Nat) (x : Wr), ws[k]? = some x → p x = true → (∀ y, y ∈ ws.take k → p y = false) → findGo p i ws = i + k
  | [], _, k, _, h, _, _ => by simp at h
  | a :: r, i, 0, x, h, hp, _ => by
    have e : a = x := by simpa using h
    unfold findGo
    rw [e, hp]
    show i = i + 0
    omega
  | a :: r, i, k + 1, x, h, hp, hn => by
    unfold findGo
    rw [hn a (by simp)]
    show findGo p (i + 1) r = _
    rw [findGo_at p r (i + 1) k x (by simpa using h) hp (fun y hy => hn y (by simp [hy]))]
    omega
def findZ (d q : Int) (ws : List Wr) : Int := findGo (isId d q) 0 ws
theorem eq_id (i j : Nat) (a c d q : Int) (W : World) : ((do eqGuard .eql 26 (.tmp i) (.tmp j) (.agg #[.int .i64 a, .int .i64 c]) (.agg #[.int .i64 d, .int .i64 q]); binOp .eql 26 (.agg #[.int .i64 a, .int .i64 c]) (.agg #[.int .i64 d, .int .i64 q])) : Sem Value).run Try.prog W = .ok (.bool (a == d && c == q)) W := by
  go_simp
  by_cases h1 : a = d <;> by_cases h2 : c = q <;> simp [h1, h2]
set_option maxRecDepth 100000 in
set_option maxHeartbeats 4000000 in
theorem find1_any (x : Wr) (p : Nat) (d q : Int) (w : World) (hp : Blk w p #[.int .i64 d, .int .i64 q] 26) : Calls Try.prog 30 #[.agg x.cells, .pointer (some ⟨p, 0, none⟩)] w fun e w' => e = .returned (.bool (isId d q x)) ∧ Below w.heap.size w w' := by
  have hpl := hp.lt
  have hX0 := blk_new w x.cells 51
  have hB := b0 w (.cells x.cells 51)
  have hzz : (w.alloc (.cells x.cells 51)).heap.size = w.heap.size + 1 := by simp
  replace hp := hp.keep hB
  go_enter Try.func30, Try.ntmps30
  go_upto_region 1 with fail
  generalize (w.alloc (.cells x.cells 51)) = W0 at hX0 hp hB hzz ⊢
  generalize hb : w.heap.size = b at hX0 hB hzz ⊢
  have f0 : ∀ W, Kp W0 W → (Instr.fieldAt 51 (.pointer (some ⟨b, 0, none⟩)) 0).run Try.prog W = .ok (.pointer (some ⟨b, 0, none⟩)) W := fun W _ => wfd0 W ⟨b, 0, none⟩
  have l0 : ∀ W, Kp W0 W → (Instr.loadAt 26 (.pointer (some ⟨b, 0, none⟩))).run Try.prog W = .ok (.agg #[.int .i64 x.dev, .int .i64 x.seq]) W := fun W h => ild ((h.blk hX0).cell 0) ((h.blk hX0).cell 1)
  have l1 : ∀ W, Kp W0 W → (Instr.loadAt 26 (.pointer (some ⟨p, 0, none⟩))).run Try.prog W = .ok (.agg #[.int .i64 d, .int .i64 q]) W := fun W h => ild ((h.blk hp).cell 0) ((h.blk hp).cell 1)
  have e1 : ∀ W, Kp W0 W → _ := fun W _ => eq_id 5 6 x.dev x.seq d q W
  refine wp_region_lit ?_
  refine fs_start (Kp W0) (Kp.refl _) ?_
  generalize ha : Act.mk _ _ = a0
  have hn : a0.tmps.size = 8 := by rw [← ha]; kernel_rfl
  have h1 : (fr a0 []).eval (.tmp 1) = .pointer (some ⟨p, 0, none⟩) := by rw [← ha]; kernel_rfl
  refine fs_know hn rfl h1 ?_
  clear h1
  have h2 : (fr a0 [(1, true, .pointer (some ⟨p, 0, none⟩))]).eval (.tmp 2) = .pointer (some ⟨b, 0, none⟩) := by rw [← ha]; kernel_rfl
  refine fs_know hn rfl h2 ?_
  clear h2
  refine s_fd hn ?_
  refine s_ld hn ?_
  refine s_ld hn ?_
  refine s_bn hn ?_
  refine s_as hn ?_
  refine fs_end (fun w2 hS => ?_)
  clear hn
  subst ha
  dsimp only [fr, cnd, Act.put, cond_true]
  simp only [List.setIfInBounds_toArray, List.set_cons_zero, List.set_cons_succ]
  have hB2 : Below b w w2 := hB.trans (hS.below.mono (by omega))
  clear f0 l0 l1 e1 hX0 hp hB hS
  go_wp2_with fail
  go_ret
  exact ⟨rfl, by first | exact hB2 | (rw [hb]; exact hB2)⟩
set_option maxRecDepth 100000 in
set_option maxHeartbeats 4000000 in
theorem idx_any {C : Nat} (A : Option Addr) (n c : Nat) (ws : List Wr) (p : Nat) (d q : Int) (w : World) (hn0 : ws.length = n) (hr : RdW C w A ws) (hC : C ≤ w.heap.size) (hm : n ≤ 1000000) (hp : Blk w p #[.int .i64 d, .int .i64 q] 26) : Calls Try.prog 29 #[.slice A n c, .func (.func 30) #[] #[.pointer (some ⟨p, 0, none⟩)]] w fun e w' => e = .returned (.int .i64 (findZ d q ws)) ∧ Below w.heap.size w w' := by
  have HN := Lib.hid hn0
  have HR := Lib.hid (fun W (hb : Kp w W) => hr.keep (W' := W) hb hC)
  clear hn0 hr
  go_enter Try.func29, Try.ntmps29
  go_wp2_with fail
  go_loopw [5, 8] (fun _ i wr => ∃ k : Nat, k ≤ n ∧ i = .int .i64 k ∧ Kp w wr ∧ Hid (∀ y, y ∈ ws.take k → isId d q y = false)) (fun _ i _ => n - (intOf i).toNat)
  case atStart => exact ⟨0, Nat.zero_le _, rfl, Kp.refl _, fun y hy => by simp at hy⟩
  case round =>
    obtain ⟨k, hk, rfl, hK, hA⟩ := hrel
    by_cases hlt : k < n
    · obtain ⟨x, hx⟩ : ∃ x, ws[k]? = some x := ⟨_, List.getElem?_eq_getElem (show k < ws.length by have := HN.out; omega)⟩
      obtain ⟨ad, rfl, hadb, hc⟩ := HR.out wr hK k x hx
      have hadl : (ad.add (k * 10)).block < wr.heap.size := World.block_lt_of_cell? wr _ (hc 0 _ rfl)
      rw [add_block] at hadl
      have HX := Lib.hid hx
      clear hx
      have i2 : (k : Int) < (n : Int) := by omega
      have ix : ∀ W, Kp wr W → _ := fun W _ => wix W ad n c k hlt
      have ld : ∀ W, Kp wr W → _ := fun W h => wld (W := W) (ad := ad) (k := k) (x := x) (fun j v hv => (h.below.cell (by rw [add_block]; exact hadl)).trans (hc j v hv))
      have hpr := hK.blk hp
      have c1 : ∀ W, Kp wr W → Calls Try.prog 30 (#[.agg x.cells] ++ #[.pointer (some ⟨p, 0, none⟩)]) W fun e w' => e = .returned (.bool (isId d q x)) ∧ Kp wr w' := kp_c fun W h => find1_any x p d q W (h.blk hpr)
      go_upto_region 4 with fail
      refine wp_region_lit ?_
      refine fs_start (Kp wr) (Kp.refl _) ?_
      generalize ha : Act.mk _ _ = a0
      have hn : a0.tmps.size = 19 := by rw [← ha]; kernel_rfl
      have h0 : (fr a0 []).eval (.tmp 0) = .slice (some ad) n c := by rw [← ha]; kernel_rfl
      refine fs_know hn rfl h0 ?_
      clear h0
      have h1 : (fr a0 [(0, true, .slice (some ad) n c)]).eval (.tmp 1) = .func (.func 30) #[] #[.pointer (some ⟨p, 0, none⟩)] := by rw [← ha]; kernel_rfl
      refine fs_know hn rfl h1 ?_
      clear h1
      have h5 : (fr a0 [(1, true, .func (.func 30) #[] #[.pointer (some ⟨p, 0, none⟩)]), (0, true, .slice (some ad) n c)]).eval (.tmp 5) = .int .i64 (k : Int) := by rw [← ha]; kernel_rfl
      refine fs_know hn rfl h5 ?_
      clear h5
      refine s_mv hn ?_
      refine s_mv hn ?_
      refine s_mv hn ?_
      refine s_ix hn ?_
      refine s_ld hn ?_
      refine s_cv1 hn en_spinney_stamp_Find_1 (fun _ => c1) ?_
      refine fs_end (fun w2 hS => ?_)
      clear hn
      subst ha
      dsimp only [fr, cnd, Act.put, cond_true]
      simp only [List.setIfInBounds_toArray, List.set_cons_zero, List.set_cons_succ]
      have hK2 := Kp.trans hK hS.below
      clear ix ld c1 hc hpr hS hK
      cases hid : isId d q x with
      | true =>
        have R : Hid ((k : Int) = findZ d q ws) := by
          show _ = findZ d q ws
          unfold findZ
          rw [findGo_at (isId d q) ws 0 k x HX.out hid hA.out]
          omega
        clear HX hid hA
        go_wp2_with fail
        go_ret
        exact ⟨ret_i64 R.out, hK2⟩
      | false =>
        have HA2 : Hid (∀ y, y ∈ ws.take (k + 1) → isId d q y = false) := fun y hy => by
          rw [List.take_add_one, HX.out] at hy
          rcases List.mem_append.1 hy with h | h
          · exact hA.out y h
          · have e : y = x := by simpa using h
            rw [e]
            exact hid
        clear HX hid hA
        go_wp2_with fail
        go_roundw
        case rel => exact ⟨k + 1, by omega, by go_num, hK2, HA2⟩
        case measure => simp [intOf]; omega
    · have e : k = n := by omega
      subst e
      have R : Hid (-1 = findZ d q ws) := by
        show _ = findZ d q ws
        unfold findZ
        rw [findGo_no (isId d q) ws 0 fun y hy => hA.out y (by rw [List.take_of_length_le (by have := HN.out; omega)]; exact hy)]
      clear hA
      go_wp2_with fail
      go_ret
      exact ⟨ret_i64 R.out, hK⟩
set_option maxRecDepth 100000 in
set_option maxHeartbeats 4000000 in
theorem find_any {C : Nat} (A : Option Addr) (n c : Nat) (ws : List Wr) (d q : Int) (w : World) (hn0 : ws.length = n) (hr : RdW C w A ws) (hC : C ≤ w.heap.size) (hm : n ≤ 1000000) : Calls Try.prog 23 #[.slice A n c, .agg #[.int .i64 d, .int .i64 q]] w fun e w' => e = .returned (.int .i64 (findZ d q ws)) ∧ Below w.heap.size w w' := by
  have hX0 := blk_new w #[.int .i64 d, .int .i64 q] 26
  have hB := b0 w (.cells #[.int .i64 d, .int .i64 q] 26)
  have hzz : (w.alloc (.cells #[.int .i64 d, .int .i64 q] 26)).heap.size = w.heap.size + 1 := by simp
  have hr0 := hr.keep hB hC
  clear hr
  go_enter Try.func23, Try.ntmps23
  go_upto_region 1 with fail
  generalize (w.alloc (.cells #[.int .i64 d, .int .i64 q] 26)) = W0 at hX0 hr0 hB hzz ⊢
  generalize hb : w.heap.size = b at hX0 hB hzz ⊢
  have c1 := idx_any A n c ws b d q W0 hn0 hr0 (by omega) hm hX0
  go_wp2_with fail
  refine c1.mono ?_
  rintro e w2 ⟨rfl, hb2⟩
  have hB2 : Below b w w2 := hB.trans (hb2.mono (by omega))
  clear c1 hX0 hr0 hB hb2
  go_wp2_with fail
  go_ret
  exact ⟨rfl, by first | exact hB2 | (rw [hb]; exact hB2)⟩
end Go.Proofs.Ytgbopikhdpmmcaa
