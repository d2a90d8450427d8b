/-
  WHAT IS PROVED: the law of the statement RollReach answers true. Conditions: those typed in the theorem.
-/
import Derived.Test.YtnlnbgcmmlpniaaGreatDoorM11
import Derived.Test.YtnlnbgcmmlpniaaGreatDoorRRefPut
import Derived.Test.YtnlnbgcmmlpniaaGreatDoorRSame
import Derived.Test.YtnlnbgcmmlpniaaGreatDoorM12
import Derived.Test.YtnlnbgcmmlpniaaGreatDoorM13
import Derived.Test.YtnlnbgcmmlpniaaGreatDoorLawRollTakes
import Derived.Test.YtnlnbgcmmlpniaaGreatDoorM10
import Derived.Test.YtnlnbgcmmlpniaaGreatDoorM0
import Derived.Test.YtnlnbgcmmlpniaaGreatDoorM2
namespace Go.Proofs.YtnlnbgcmmlpniaaGreatDoor
open Go.RowKit

theorem cat_all (l m : List UInt8) (hl : l.length ≤ 2000) (hm : m.length ≤ 90000) : ∃ sa sl sb : ByteArray, (⟨(l ++ m).toArray⟩ : ByteArray) = sa ∧ (⟨l.toArray⟩ : ByteArray) = sl ∧ (⟨m.toArray⟩ : ByteArray) = sb ∧ Op.stringOp .add sl sb = pure (.string (sl ++ sb)) ∧ (sa.toList == (sl ++ sb).toList) = true :=
  ⟨_, _, _, rfl, rfl, rfl, str_add' (by show l.toArray.size ≤ _; rw [List.size_toArray]; omega) (by show m.toArray.size ≤ _; rw [List.size_toArray]; omega), by
    rw [ByteArray.toList_eq, ByteArray.toList_eq]
    simp⟩
theorem rdX1_of {B : Nat} {W : World} {A : Option Addr} {l : List ByteArray} (h : RdS B W A l) : RdX 1 B W A (l.map strC) := by
  intro k cs hk
  rw [List.getElem?_map] at hk
  cases hl : l[k]? with
  | none => rw [hl] at hk; cases hk
  | some x =>
    rw [hl] at hk
    injection hk with hk
    subst hk
    obtain ⟨ad, hA, hlt, hc⟩ := h k x hl
    refine ⟨ad, hA, hlt, fun j v hv => ?_⟩
    match j, hv with
    | 0, hv =>
      obtain rfl : Value.string x = v := by simpa using hv
      rw [Nat.mul_one, Nat.add_zero]
      exact hc
/-- What stands through the last region: two blocks of twelve, the reader, the rest of the memory. -/
def HR (S : Addr) (b b2 g : Nat) (C : Array Value) (t : TypeId) (w0 W : World) : Prop := Blk W b C t ∧ Blk W b2 C t ∧ RdrP S W g (some []) ∧ w0.grownBy W (some g)
section
variable {S : Addr} {b b2 g : Nat} {C : List Value} {t : TypeId} {w0 W W1 : World}
theorem hr_s (h : HR S b b2 g C.toArray t w0 W) : W.rangeAt b 0 C ∧ W.rangeAt b2 0 C ∧ HR S b b2 g C.toArray t w0 W := ⟨h.1.range, h.2.1.range, h⟩
theorem hr_0 (h : Blk W b C.toArray t) (h2 : Blk W b2 C.toArray t) (hR : RdrP S W g (some [])) : W.drew.rangeAt b 0 C ∧ W.drew.rangeAt b2 0 C ∧ HR S b b2 g C.toArray t W W.drew :=
  have hb := (Below.refl W.heap.size W).drew
  hr_s ⟨h.keep hb, h2.keep hb, hR.below hb, grown_below hb _⟩
theorem hr_1 (h : HR S b b2 g C.toArray t w0 W) (hb : Below W.heap.size W W1) : W1.rangeAt b 0 C ∧ W1.rangeAt b2 0 C ∧ HR S b b2 g C.toArray t w0 W1 :=
  hr_s ⟨h.1.keep hb, h.2.1.keep hb, h.2.2.1.below hb, h.2.2.2.trans (grown_below hb _)⟩
theorem hr_e (h : HR S b b2 g C.toArray t w0 W) (n1 : b ≠ g) (n2 : b2 ≠ g) (hR : RdrP S W1 g (some [])) (hg : W.grownBy W1 (some g)) : W1.rangeAt b 0 C ∧ W1.rangeAt b2 0 C ∧ HR S b b2 g C.toArray t w0 W1 :=
  hr_s ⟨grown_row h.1 hg n1, grown_row h.2.1 hg n2, hR, h.2.2.2.trans hg⟩
theorem hr_b {w : World} (h : HR S b b2 g C.toArray t w0 W) (hB : Below w.heap.size w w0) (hg : w.heap.size ≤ g) : Below w.heap.size w W := hB.trans (below_grown h.2.2.2 hg hB.size)
end
theorem reach_len {l : List ByteArray} (hs : Sz 20 l) : (l.flatMap (fun s : ByteArray => textB s.data.toList)).length ≤ l.length * 29 := by
  induction l with
  | nil => simp
  | cons x t ih =>
    have h1 := hs x (List.mem_cons_self ..)
    have h2 := ih fun y hy => hs y (List.mem_cons_of_mem _ hy)
    rw [List.flatMap_cons, List.length_append, List.length_cons, Nat.succ_mul]
    have h3 : (textB x.data.toList).length ≤ 29 := by
      have e : (textB x.data.toList).length = (numB x.data.toList.length).length + x.data.toList.length := by simp [textB]
      have k : x.data.toList.length ≤ 20 := by rw [Array.length_toList]; exact h1
      have := numB_small (n := x.data.toList.length) (by omega)
      omega
    omega
theorem la_len {l : List Int} (h : ∀ x, x ∈ l → 0 ≤ x ∧ x ≤ 40) : (laB l).length ≤ l.length * 9 := by
  induction l with
  | nil => simp [laB]
  | cons x t ih =>
    have h1 := h x (List.mem_cons_self ..)
    have h2 := ih fun y hy => h y (List.mem_cons_of_mem _ hy)
    have := numB_small (n := x.toNat) (by omega)
    have e : laB (x :: t) = numB x.toNat ++ laB t := by simp [laB]
    rw [e, List.length_append, List.length_cons, Nat.succ_mul]
    omega
theorem goodLa_all {l : List Int} (h : goodLa l = true) : ∀ x, x ∈ l → 0 ≤ x ∧ x ≤ 40 := fun x hx => by
  unfold goodLa at h
  rw [Bool.and_eq_true] at h
  exact of_decide_eq_true (List.all_eq_true.1 h.1 x hx)
theorem reach_bytes {l : List ByteArray} {n : Nat} (hn : l.length = n) (r : List UInt8) : numB n ++ l.flatMap (fun s : ByteArray => textB s.data.toList) ++ r = numB (dL l).length ++ (dL l).flatMap textB ++ r := by
  rw [dL_len, hn, List.flatMap_map]

set_option maxRecDepth 100000 in
set_option maxHeartbeats 2000000 in
theorem lawRollReach_bad (A : Option Addr) (n c : Nat) (l : List ByteArray) (a0 a1 a2 a3 a4 a5 a6 a7 a8 a9 a10 a11 : Int) (w : World) (hn : l.length = n) (hr : RdS w.heap.size w A l) (hm : n ≤ maxLen) (hs : ∀ x, x ∈ l → x.size ≤ maxLen)
    (hb : goodR (dL l) = false ∨ (goodR (dL l) = true ∧ goodLa (laL a0 a1 a2 a3 a4 a5 a6 a7 a8 a9 a10 a11) = false)) :
    Calls Tryz.prog 3 #[.slice A n c, .agg (laI a0 a1 a2 a3 a4 a5 a6 a7 a8 a9 a10 a11)] w fun e w' => e = .returned (.bool true) ∧ Below w.heap.size w w' := by
  have hB := b0 w (.cells (laI a0 a1 a2 a3 a4 a5 a6 a7 a8 a9 a10 a11) 25)
  have hX := blk_new w (laI a0 a1 a2 a3 a4 a5 a6 a7 a8 a9 a10 a11) 25
  have F1 := Lib.hid (fun (b : Bool) (e : goodR (dL l) = b) W (h : Below w.heap.size w W) => refRGood_is (B := w.heap.size) A n c l W b e hn (hr.keep h (Nat.le_refl _)) hm hs)
  have F2 := Lib.hid (fun (b : Bool) (e : goodLa (laL a0 a1 a2 a3 a4 a5 a6 a7 a8 a9 a10 a11) = b) W => e ▸ refGoodLa_any a0 a1 a2 a3 a4 a5 a6 a7 a8 a9 a10 a11 W)
  clear hr hn hm hs
  rcases hb with hb | ⟨hb, hb2⟩
  · go_enter Tryz.func3, Tryz.ntmps3
    go_wp2_with first
      | (go_at_call 6; refine (rollAwake (w.alloc (.cells (laI a0 a1 a2 a3 a4 a5 a6 a7 a8 a9 a10 a11) 25))).mono ?_; rintro e w1 ⟨rfl, hb1⟩; have hB1 := bt hB hb1)
      | (go_at_call 7; refine (F1.out _ hb _ hB1).mono ?_; rintro e w2 ⟨rfl, hD2⟩; have hB2 := bt hB1 (hD2.below _))
      | (go_at_call 6; refine (rollAwake w2).mono ?_; rintro e w3 ⟨rfl, hb3⟩)
    go_ret
    exact ⟨rfl, bt hB2 hb3⟩
  · go_enter Tryz.func3, Tryz.ntmps3
    go_wp2_with first
      | (go_at_call 6; refine (rollAwake (w.alloc (.cells (laI a0 a1 a2 a3 a4 a5 a6 a7 a8 a9 a10 a11) 25))).mono ?_; rintro e w1 ⟨rfl, hb1⟩; have hB1 := bt hB hb1; have hX1 := hX.keep hb1)
      | (go_at_call 7; refine (F1.out _ hb _ hB1).mono ?_; rintro e w2 ⟨rfl, hD2⟩; have hB2 := bt hB1 (hD2.below _); have hX2 := hX1.keep (hD2.below _); have c0 := Blk.cell hX2 0; have c1 := Blk.cell hX2 1; have c2 := Blk.cell hX2 2; have c3 := Blk.cell hX2 3; have c4 := Blk.cell hX2 4; have c5 := Blk.cell hX2 5; have c6 := Blk.cell hX2 6; have c7 := Blk.cell hX2 7; have c8 := Blk.cell hX2 8; have c9 := Blk.cell hX2 9; have c10 := Blk.cell hX2 10; have c11 := Blk.cell hX2 11)
      | (go_at_call 8; refine (F2.out _ hb2 _).mono ?_; rintro e w3 ⟨rfl, hb3⟩; have hB3 := bt hB2 hb3)
      | (go_at_call 6; refine (rollAwake w3).mono ?_; rintro e w4 ⟨rfl, hb4⟩)
    go_ret
    exact ⟨rfl, bt hB3 hb4⟩

set_option maxRecDepth 100000 in
set_option maxHeartbeats 16000000 in
theorem lawRollReach_good (S : Addr) (A : Option Addr) (n c : Nat) (l : List ByteArray) (a0 a1 a2 a3 a4 a5 a6 a7 a8 a9 a10 a11 : Int) (w : World) (hn : l.length = n) (hr : RdS w.heap.size w A l) (hL : LaidP S w) (hg : goodR (dL l) = true) (hgl : goodLa (laL a0 a1 a2 a3 a4 a5 a6 a7 a8 a9 a10 a11) = true) :
    Calls Tryz.prog 3 #[.slice A n c, .agg (laI a0 a1 a2 a3 a4 a5 a6 a7 a8 a9 a10 a11)] w fun e w' => e = .returned (.bool true) ∧ Below w.heap.size w w' := by
  have h20 := goodR_sizes hg
  have h6 := goodR_six hg
  have hall := goodLa_all hgl
  have hz1 := reach_len h20
  have hz2 := la_len hall
  have hz3 := numB_small (n := n) (by omega)
  have hz2' : (laL a0 a1 a2 a3 a4 a5 a6 a7 a8 a9 a10 a11).length = 12 := rfl
  have ht : outG preF goodR (some (numB n ++ l.flatMap (fun s : ByteArray => textB s.data.toList) ++ laB (laL a0 a1 a2 a3 a4 a5 a6 a7 a8 a9 a10 a11))) 6 = some (dL l, laB (laL a0 a1 a2 a3 a4 a5 a6 a7 a8 a9 a10 a11)) := by
    rw [reach_bytes hn]
    exact out_put (f := preF) (E := textB) _ (by rw [dL_len]; omega) (by rw [dL_len]; omega) (fun x hx => by
      obtain ⟨y, hy, rfl⟩ := List.mem_map.1 hx
      exact take_pre (by rw [Array.length_toList]; exact h20 y hy)) (fun x _ => Nat.pos_iff_ne_zero.1 (text_pos x)) hg
  have ht2 : outLa (some (laB (laL a0 a1 a2 a3 a4 a5 a6 a7 a8 a9 a10 a11))) = some (laL a0 a1 a2 a3 a4 a5 a6 a7 a8 a9 a10 a11, []) := by
    have q := fun x hx => (hall x hx).1
    obtain ⟨⟨n0, rfl⟩, ⟨n1, rfl⟩, ⟨n2, rfl⟩, ⟨n3, rfl⟩, ⟨n4, rfl⟩, ⟨n5, rfl⟩, ⟨n6, rfl⟩, ⟨n7, rfl⟩, ⟨n8, rfl⟩, ⟨n9, rfl⟩, ⟨n10, rfl⟩, ⟨n11, rfl⟩⟩ : (∃ k : Nat, a0 = k) ∧ (∃ k : Nat, a1 = k) ∧ (∃ k : Nat, a2 = k) ∧ (∃ k : Nat, a3 = k) ∧ (∃ k : Nat, a4 = k) ∧ (∃ k : Nat, a5 = k) ∧ (∃ k : Nat, a6 = k) ∧ (∃ k : Nat, a7 = k) ∧ (∃ k : Nat, a8 = k) ∧ (∃ k : Nat, a9 = k) ∧ (∃ k : Nat, a10 = k) ∧ (∃ k : Nat, a11 = k) :=
      ⟨Int.eq_ofNat_of_zero_le (q a0 (by simp)), Int.eq_ofNat_of_zero_le (q a1 (by simp)), Int.eq_ofNat_of_zero_le (q a2 (by simp)), Int.eq_ofNat_of_zero_le (q a3 (by simp)), Int.eq_ofNat_of_zero_le (q a4 (by simp)), Int.eq_ofNat_of_zero_le (q a5 (by simp)), Int.eq_ofNat_of_zero_le (q a6 (by simp)), Int.eq_ofNat_of_zero_le (q a7 (by simp)), Int.eq_ofNat_of_zero_le (q a8 (by simp)), Int.eq_ofNat_of_zero_le (q a9 (by simp)), Int.eq_ofNat_of_zero_le (q a10 (by simp)), Int.eq_ofNat_of_zero_le (q a11 (by simp))⟩
    have := outLa_put n0 n1 n2 n3 n4 n5 n6 n7 n8 n9 n10 n11 [] hgl
    rw [List.append_nil] at this
    exact this
  have hK := Lib.hid (fun W (h : Below w.heap.size w W) => hr.keep h (Nat.le_refl _))
  have F1 := Lib.hid (fun W (h : Below w.heap.size w W) => refRGood_is (B := w.heap.size) A n c l W true hg hn (hK.out W h) (by unfold maxLen; omega) (fun x hx => by have := h20 x hx; unfold maxLen; omega))
  have F2 := Lib.hid (fun W => hgl ▸ refGoodLa_any a0 a1 a2 a3 a4 a5 a6 a7 a8 a9 a10 a11 W)
  have P1 := Lib.hid (fun W (h : Below w.heap.size w W) => putR_any none A 0 0 n c [] l W rfl (by omega) (Nat.le_refl _) (RdB.nil _ _ _) hn (by omega) (rdX1_of ((hK.out W h).more h.size)) (fun x hx => by have := h20 x hx; omega))
  have hbnd : ∀ x, x ∈ laL a0 a1 a2 a3 a4 a5 a6 a7 a8 a9 a10 a11 → 0 ≤ x ∧ x ≤ 1000000 := fun x hx => by have := hall x hx; omega
  have hbnd2 : ∀ x, x ∈ laL a0 a1 a2 a3 a4 a5 a6 a7 a8 a9 a10 a11 → 0 ≤ x ∧ x ≤ 100000 := fun x hx => by have := hall x hx; omega
  generalize hLR : numB n ++ l.flatMap (fun s : ByteArray => textB s.data.toList) = LR at P1 ht
  have zR : LR.length ≤ 2000 := by rw [← hLR, List.length_append]; omega
  have P2 := Lib.hid (fun A3 n3 c3 W B (h : OwnB B W A3 n3 c3 ([] ++ LR)) => putLa_any A3 n3 c3 ([] ++ LR) a0 a1 a2 a3 a4 a5 a6 a7 a8 a9 a10 a11 W h.len (by have := h.len; rw [List.nil_append] at this; omega) h.cap.1 h.rd hbnd)
  have R1 := Lib.hid (fun W (h : Below w.heap.size w W) => hLR ▸ refPutR_any (B := w.heap.size) A n c l W hn (rdX1_of (hK.out W h)) h.size (by omega) (fun x hx => by have := h20 x hx; omega))
  have R2 := Lib.hid (fun W => refPutLa_any a0 a1 a2 a3 a4 a5 a6 a7 a8 a9 a10 a11 W hbnd2)
  have zL : (laB (laL a0 a1 a2 a3 a4 a5 a6 a7 a8 a9 a10 a11)).length ≤ 2000 := by omega
  have hEq := la_eql a0 a1 a2 a3 a4 a5 a6 a7 a8 a9 a10 a11
  have hSame : sameB (baL (dL l)) l = true := same_self rfl
  have hLK := Lib.hid (fun W (h : Below w.heap.size w W) => hL.keep (W' := W) h)
  generalize hLL : laB (laL a0 a1 a2 a3 a4 a5 a6 a7 a8 a9 a10 a11) = LL at ht ht2 P2 R2 zL
  have HK := Lib.hid (And.intro hr (And.intro h20 (And.intro h6 hn)))
  have HT := Lib.hid (And.intro ht ht2)
  clear hr h20 h6 hall hz1 hz2 hz3 hz2' ht ht2 hbnd hbnd2 hg hgl hLR hLL hn hL
  have hX := blk_new w (laI a0 a1 a2 a3 a4 a5 a6 a7 a8 a9 a10 a11) 25
  have hB := b0 w (.cells (laI a0 a1 a2 a3 a4 a5 a6 a7 a8 a9 a10 a11) 25)
  go_enter Tryz.func3, Tryz.ntmps3
  go_upto_region 1 with fail
  generalize w.alloc (.cells (laI a0 a1 a2 a3 a4 a5 a6 a7 a8 a9 a10 a11) 25) = W at hX hB ⊢
  go_upto_region 3 with first
    | (go_at_call 6; refine (rollAwake W).mono ?_; rintro e w1 ⟨rfl, hb1⟩; have hB1 := hB.trans (hb1.mono (Nat.le_of_lt hX.lt)); have hX1 := hX.keep hb1)
    | (go_at_call 7; refine (F1.out _ hB1).mono ?_; rintro e w2' ⟨rfl, hD2⟩; have hB2' := bt hB1 (hD2.below _); have hX2' := hX1.keep (hD2.below _); have c0 := Blk.cell hX2' 0; have c1 := Blk.cell hX2' 1; have c2 := Blk.cell hX2' 2; have c3 := Blk.cell hX2' 3; have c4 := Blk.cell hX2' 4; have c5 := Blk.cell hX2' 5; have c6 := Blk.cell hX2' 6; have c7 := Blk.cell hX2' 7; have c8 := Blk.cell hX2' 8; have c9 := Blk.cell hX2' 9; have c10 := Blk.cell hX2' 10; have c11 := Blk.cell hX2' 11)
    | (go_at_call 8; refine (F2.out _).mono ?_; rintro e w2 ⟨rfl, hb2⟩; have hB2 := bt hB2' hb2; have hX2 := hX2'.keep hb2)
  clear c0 c1 c2 c3 c4 c5 c6 c7 c8 c9 c10 c11 hB1 hX1 hB2' hX2' hb1 hb2 hD2 hX hB
  have hu12 := Tryz.underlying25
  have hz12 : (Tryz.prog.info? 25).map (·.size) = some ([.int .i64 a0, .int .i64 a1, .int .i64 a2, .int .i64 a3, .int .i64 a4, .int .i64 a5, .int .i64 a6, .int .i64 a7, .int .i64 a8, .int .i64 a9, .int .i64 a10, .int .i64 a11] : List Value).length := by kernel_rfl
  refine wp_region_held_drew (S := (fun w' => w'.rangeAt w.heap.size 0 [.int .i64 a0, .int .i64 a1, .int .i64 a2, .int .i64 a3, .int .i64 a4, .int .i64 a5, .int .i64 a6, .int .i64 a7, .int .i64 a8, .int .i64 a9, .int .i64 a10, .int .i64 a11] ∧ Blk w' w.heap.size (laI a0 a1 a2 a3 a4 a5 a6 a7 a8 a9 a10 a11) 25 ∧ Below w.heap.size w w')) (by kernel_rfl) ?_ (fun hHeld => ?_)
  · first | exact sb12_0 hX2 hB2 | exact sb12_1 hHeld (by assumption)
  refine wpAnyH_take (i := 0) (oi := ⟨some 24, _, _, _, _, _⟩) (v := ?_) (by rfl) (by kernel_rfl) (by kernel_rfl) (by kernel_rfl) (fun _ _ _ h => h) (Or.inl ⟨by rfl, ?hy⟩) (by assumption) ?_
  case hy => (intro w hSw; (try dsimp only at hSw); go_simp; try with_reducible rfl)
  try simp only [Act.put, List.setIfInBounds_toArray, List.set_cons_zero, List.set_cons_succ]
  refine wpAnyH_take (i := 2) (oi := ⟨some 26, _, _, _, _, _⟩) (v := _) (by rfl) (by kernel_rfl) (by kernel_rfl) (by kernel_rfl) (fun _ _ _ h => h) (yieldsIf_load_mid (by rfl) _ _ rfl _ _ rfl _ _ (fun w hSw => hSw.1) hu12 rfl hz12) (by assumption) ?_
  try simp only [Act.put, List.setIfInBounds_toArray, List.set_cons_zero, List.set_cons_succ]
  refine wpAnyH_ready (rs := [1]) (by kernel_rfl) (by simp) ?_
  refine AllReadyH.cons (o := ⟨some 25, _, _, _, _, _⟩) (by rfl) (fun K hK => ?_) ?_
  · (go_simp; (go_at_call 10; ((with_reducible refine (P1.out _ (sb12_b hHeld)).mono ?_); rintro e w3 ⟨⟨A3, n3, c3, rfl, hO3⟩, hb3⟩)); go_wp2_with fail)
    refine hK.out _ _ ?_ (fun hHeld => ?_)
    · first | exact sb12_0 hX2 hB2 | exact sb12_1 hHeld (by assumption)
    clear hK K
    try simp only [Act.put, List.setIfInBounds_toArray, List.set_cons_zero, List.set_cons_succ]
    refine wpAnyH_ready (rs := [3]) (by kernel_rfl) (by simp) ?_
    refine AllReadyH.cons (o := ⟨some 27, _, _, _, _, _⟩) (by rfl) (fun K hK => ?_) ?_
    · (go_simp; (go_at_call 9; ((with_reducible refine (P2.out A3 n3 c3 _ _ hO3).mono ?_); rintro e w4 ⟨⟨A4, n4, c4, rfl, hO4⟩, hb4⟩)); go_wp2_with fail)
      refine hK.out _ _ ?_ (fun hHeld => ?_)
      · first | exact sb12_0 hX2 hB2 | exact sb12_1 hHeld (by assumption)
      clear hK K
      try simp only [Act.put, List.setIfInBounds_toArray, List.set_cons_zero, List.set_cons_succ]
      refine wpAnyH_take (i := 4) (oi := ⟨some 5, _, _, _, _, _⟩) (v := ?_) (by rfl) (by kernel_rfl) (by kernel_rfl) (by kernel_rfl) (fun _ _ _ h => h) (Or.inl ⟨by rfl, ?hy⟩) (by assumption) ?_
      case hy => (intro w hSw; (try dsimp only at hSw); go_simp; try with_reducible rfl)
      try simp only [Act.put, List.setIfInBounds_toArray, List.set_cons_zero, List.set_cons_succ]
      refine wpAnyH_done (by kernel_rfl) ?_ _
      have hX4 := sb12_k hHeld
      have hB4 := sb12_b hHeld
      rw [List.nil_append] at hO4
      have hR4 := hO4.rd
      have hl4 := hO4.len
      have hz4 : n4 ≤ 1000000 := by rw [List.length_append] at hl4; omega
      have hlt4 := hX4.lt
      have l4 := hB4.size
      clear hHeld hO4 hb4 hO3 hb3
      go_wp2_with fail
      refine (rOpen_any S A4 n4 c4 (LR ++ LL) w4 hl4 hz4 hR4).mono ?_
      rintro e w5 ⟨⟨g, rfl, hA5, hg5⟩, hb5⟩
      have hB5 := bt hB4 hb5
      have hg0 : w.heap.size ≤ g := by omega
      have hne1 : w.heap.size ≠ g := by omega
      have G1 := takeR_any S g (some (LR ++ LL)) w5 (hLK.out w5 hB5).s hA5
      rw [HT.out.1] at G1
      go_wp2_with fail
      refine G1.mono ?_
      clear G1
      rintro e w6 h6
      obtain ⟨⟨⟨Y, m3, d3, rfl, hY6⟩, hA6⟩, hgr⟩ := h6
      have hB6 := hB5.trans (below_grown hgr hg0 hB5.size)
      have hQ6 := hb5.trans (below_grown hgr hg5 hb5.size)
      have hlg := hA5.lt
      have G2 := takeLa_any S g (some LL) w6 (hLK.out w6 hB6).s hA6
      rw [HT.out.2] at G2
      clear hgr hB5 hb5
      go_wp2_with fail
      refine G2.mono ?_
      clear G2
      rintro e w7 h7
      obtain ⟨⟨rfl, hA7⟩, hgr⟩ := h7
      have hB7 := hB6.trans (below_grown hgr hg0 hB6.size)
      have hQ7 := hQ6.trans (below_grown hgr hg5 hQ6.size)
      have hY7 := hY6.keepG hgr hlg
      have hfm : lastsI (laL a0 a1 a2 a3 a4 a5 a6 a7 a8 a9 a10 a11) = laI a0 a1 a2 a3 a4 a5 a6 a7 a8 a9 a10 a11 := rfl
      rw [hfm]
      clear hgr hB6 hQ6 hY6 hA6
      go_upto_region 7 with fail
      have hY13 := blk_new w7 (laI a0 a1 a2 a3 a4 a5 a6 a7 a8 a9 a10 a11) 25
      have hB13 := ba hB7 (.cells (laI a0 a1 a2 a3 a4 a5 a6 a7 a8 a9 a10 a11) 25)
      have hQ13 := ba hQ7 (.cells (laI a0 a1 a2 a3 a4 a5 a6 a7 a8 a9 a10 a11) 25)
      have hZ13 := hY7.keep (b0 w7 (.cells (laI a0 a1 a2 a3 a4 a5 a6 a7 a8 a9 a10 a11) 25))
      have hne2 : w7.heap.size ≠ g := by have := hA7.lt; omega
      have hA13 := hA7.below (b0 w7 (.cells (laI a0 a1 a2 a3 a4 a5 a6 a7 a8 a9 a10 a11) 25))
      generalize w7.alloc (.cells (laI a0 a1 a2 a3 a4 a5 a6 a7 a8 a9 a10 a11) 25) = w13 at hY13 hB13 hQ13 hZ13 hA13 ⊢
      generalize w7.heap.size = b2 at hY13 hne2 ⊢
      clear hB7 hQ7 hY7 hA7 hA5
      have hX13 := hX4.keep hQ13
      have hneY : ∀ ad, Y = some ad → some ad.block ≠ some g := fun ad e h => by have := hZ13.blk e; injection h with h; omega
      obtain ⟨sa, sl, sb, k1, k2, k3, had, heq⟩ := cat_all LR LL zR (by omega)
      have cv4 := Lib.hid (fun W (h : HR S w.heap.size b2 g ([.int .i64 a0, .int .i64 a1, .int .i64 a2, .int .i64 a3, .int .i64 a4, .int .i64 a5, .int .i64 a6, .int .i64 a7, .int .i64 a8, .int .i64 a9, .int .i64 a10, .int .i64 a11] : List Value).toArray 25 w13 W) => k1 ▸ conv_rd W A4 n4 c4 (LR ++ LL) hl4 (hR4.keep (hQ13.trans (below_grown h.2.2.2 hg5 hQ13.size)) (Nat.le_refl _)))
      have cv5 := Lib.hid (fun W A n c B (h : OwnB B W A n c LR) => k2 ▸ conv_rd W A n c LR h.len h.rd)
      have cv6 := Lib.hid (fun W A n c B (h : OwnB B W A n c LL) => k3 ▸ conv_rd W A n c LL h.len h.rd)
      have R1' := Lib.hid (fun W (h : HR S w.heap.size b2 g ([.int .i64 a0, .int .i64 a1, .int .i64 a2, .int .i64 a3, .int .i64 a4, .int .i64 a5, .int .i64 a6, .int .i64 a7, .int .i64 a8, .int .i64 a9, .int .i64 a10, .int .i64 a11] : List Value).toArray 25 w13 W) => R1.out W (hr_b h hB13 hg0))
      have hm3 := hZ13.len
      rw [List.length_map, dL_len, HK.out.2.2.2] at hm3
      have R3 := Lib.hid (fun W (h : HR S w.heap.size b2 g ([.int .i64 a0, .int .i64 a1, .int .i64 a2, .int .i64 a3, .int .i64 a4, .int .i64 a5, .int .i64 a6, .int .i64 a7, .int .i64 a8, .int .i64 a9, .int .i64 a10, .int .i64 a11] : List Value).toArray 25 w13 W) => hSame ▸ refSame_any (B := w13.heap.size) (C := w.heap.size) Y A m3 d3 n c (baL (dL l)) l W (by rw [baL_len, dL_len, HK.out.2.2.2]; exact hm3) (rdS_of (hZ13.rd.grown h.2.2.2 (Nat.le_refl _) hneY)) (by have := HK.out.2.2.1; have := HK.out.2.2.2; unfold maxLen; omega) HK.out.2.2.2 (hK.out W (hr_b h hB13 hg0)))
      have R4 := Lib.hid (fun W (h : HR S w.heap.size b2 g ([.int .i64 a0, .int .i64 a1, .int .i64 a2, .int .i64 a3, .int .i64 a4, .int .i64 a5, .int .i64 a6, .int .i64 a7, .int .i64 a8, .int .i64 a9, .int .i64 a10, .int .i64 a11] : List Value).toArray 25 w13 W) => (show Calls Tryz.prog 17 #[.pointer (some ⟨g, 0, none⟩)] W fun e w' => e = .returned (.int .i64 0) ∧ RdrP S w' g (some []) ∧ W.grownBy w' (some g) from rEnd_any S g (some []) W (hLK.out W (hr_b h hB13 hg0)) h.2.2.1))
      have hu12 := Tryz.underlying25
      have hz12 : (Tryz.prog.info? 25).map (·.size) = some ([.int .i64 a0, .int .i64 a1, .int .i64 a2, .int .i64 a3, .int .i64 a4, .int .i64 a5, .int .i64 a6, .int .i64 a7, .int .i64 a8, .int .i64 a9, .int .i64 a10, .int .i64 a11] : List Value).length := by kernel_rfl
      clear k1 k2 k3 hQ13 hm3 hneY hZ13 hR4
      refine wp_region_held_drew (S := (fun w' => w'.rangeAt w.heap.size 0 [.int .i64 a0, .int .i64 a1, .int .i64 a2, .int .i64 a3, .int .i64 a4, .int .i64 a5, .int .i64 a6, .int .i64 a7, .int .i64 a8, .int .i64 a9, .int .i64 a10, .int .i64 a11] ∧ w'.rangeAt b2 0 [.int .i64 a0, .int .i64 a1, .int .i64 a2, .int .i64 a3, .int .i64 a4, .int .i64 a5, .int .i64 a6, .int .i64 a7, .int .i64 a8, .int .i64 a9, .int .i64 a10, .int .i64 a11] ∧ HR S w.heap.size b2 g ([.int .i64 a0, .int .i64 a1, .int .i64 a2, .int .i64 a3, .int .i64 a4, .int .i64 a5, .int .i64 a6, .int .i64 a7, .int .i64 a8, .int .i64 a9, .int .i64 a10, .int .i64 a11] : List Value).toArray 25 w13 w')) (by kernel_rfl) ?_ (fun hHeld => ?_)
      · first | exact hHeld | exact hr_0 hX13 hY13 hA13 | exact hr_1 hHeld.2.2 (by assumption) | exact hr_e hHeld.2.2 hne1 hne2 hA17 hg17
      refine wpAnyH_take (i := 0) (oi := ⟨some 40, _, _, _, _, _⟩) (v := ?_) (by rfl) (by kernel_rfl) (by kernel_rfl) (by kernel_rfl) (fun _ _ _ h => h) (Or.inl ⟨by rfl, ?hy⟩) (by assumption) ?_
      case hy => (intro w hSw; (try dsimp only at hSw); go_simp; try with_reducible rfl)
      try simp only [Act.put, List.setIfInBounds_toArray, List.set_cons_zero, List.set_cons_succ]
      refine wpAnyH_take (i := 1) (oi := ⟨some 41, _, _, _, _, _⟩) (v := .string sa) (by rfl) (by kernel_rfl) (by kernel_rfl) (by kernel_rfl) (fun _ _ _ h => h) (.inl ⟨by rfl, fun w hSw => by have hc := cv4.out w hSw.2.2; go_simp⟩) (by assumption) ?_
      try simp only [Act.put, List.setIfInBounds_toArray, List.set_cons_zero, List.set_cons_succ]
      refine wpAnyH_take (i := 2) (oi := ⟨some 42, _, _, _, _, _⟩) (v := ?_) (by rfl) (by kernel_rfl) (by kernel_rfl) (by kernel_rfl) (fun _ _ _ h => h) (Or.inl ⟨by rfl, ?hy⟩) (by assumption) ?_
      case hy => (intro w hSw; (try dsimp only at hSw); go_simp; try with_reducible rfl)
      try simp only [Act.put, List.setIfInBounds_toArray, List.set_cons_zero, List.set_cons_succ]
      refine wpAnyH_take (i := 5) (oi := ⟨some 45, _, _, _, _, _⟩) (v := _) (by rfl) (by kernel_rfl) (by kernel_rfl) (by kernel_rfl) (fun _ _ _ h => h) (yieldsIf_load_mid (by rfl) _ _ rfl _ _ rfl _ _ (fun w hSw => hSw.1) hu12 rfl hz12) (by assumption) ?_
      try simp only [Act.put, List.setIfInBounds_toArray, List.set_cons_zero, List.set_cons_succ]
      refine wpAnyH_ready (rs := [3]) (by kernel_rfl) (by simp) ?_
      refine AllReadyH.cons (o := ⟨some 43, _, _, _, _, _⟩) (by rfl) (fun K hK => ?_) ?_
      · (go_simp; (go_at_call 14; ((with_reducible refine (R1'.out _ hHeld.2.2).mono ?_); rintro e w14 ⟨⟨A5, n5, c5, rfl, hO5⟩, hb5⟩; have hcv5 := cv5.out w14 A5 n5 c5 _ hO5)); go_wp2_with fail)
        refine hK.out _ _ ?_ (fun hHeld => ?_)
        · first | exact hHeld | exact hr_0 hX13 hY13 hA13 | exact hr_1 hHeld.2.2 (by assumption) | exact hr_e hHeld.2.2 hne1 hne2 hA17 hg17
        clear hK K
        try simp only [Act.put, List.setIfInBounds_toArray, List.set_cons_zero, List.set_cons_succ]
        refine wpAnyH_ready (rs := [4, 6]) (by kernel_rfl) (by simp) ?_
        refine AllReadyH.cons (o := ⟨some 44, _, _, _, _, _⟩) (by rfl) (fun K hK => ?_) ?_
        · (go_simp)
          refine hK.out _ _ ?_ (fun hHeld => ?_)
          · first | exact hHeld | exact hr_0 hX13 hY13 hA13 | exact hr_1 hHeld.2.2 (by assumption) | exact hr_e hHeld.2.2 hne1 hne2 hA17 hg17
          clear hK K
          try simp only [Act.put, List.setIfInBounds_toArray, List.set_cons_zero, List.set_cons_succ]
          refine wpAnyH_ready (rs := [6]) (by kernel_rfl) (by simp) ?_
          refine AllReadyH.cons (o := ⟨some 46, _, _, _, _, _⟩) (by rfl) (fun K hK => ?_) ?_
          · (go_simp; (go_at_call 15; ((with_reducible refine (R2.out _).mono ?_); rintro e w15 ⟨⟨A6, n6, c6, rfl, hO6⟩, hb6⟩; have hcv5 := cv5.out w15 A5 n5 c5 _ (hO5.keep hb6); have hcv6 := cv6.out w15 A6 n6 c6 _ hO6)); go_wp2_with fail)
            refine hK.out _ _ ?_ (fun hHeld => ?_)
            · first | exact hHeld | exact hr_0 hX13 hY13 hA13 | exact hr_1 hHeld.2.2 (by assumption) | exact hr_e hHeld.2.2 hne1 hne2 hA17 hg17
            clear hK K
            try simp only [Act.put, List.setIfInBounds_toArray, List.set_cons_zero, List.set_cons_succ]
            refine wpAnyH_ready (rs := [7]) (by kernel_rfl) (by simp) ?_
            refine AllReadyH.cons (o := ⟨some 47, _, _, _, _, _⟩) (by rfl) (fun K hK => ?_) ?_
            · (go_simp)
              refine hK.out _ _ ?_ (fun hHeld => ?_)
              · first | exact hHeld | exact hr_0 hX13 hY13 hA13 | exact hr_1 hHeld.2.2 (by assumption) | exact hr_e hHeld.2.2 hne1 hne2 hA17 hg17
              clear hK K
              try simp only [Act.put, List.setIfInBounds_toArray, List.set_cons_zero, List.set_cons_succ]
              refine wpAnyH_take (i := 8) (oi := ⟨some 48, _, _, _, _, _⟩) (v := ?_) (by rfl) (by kernel_rfl) (by kernel_rfl) (by kernel_rfl) (fun _ _ _ h => h) (Or.inl ⟨by rfl, ?hy⟩) (by assumption) ?_
              case hy => (intro w hSw; (try dsimp only at hSw); go_simp; try with_reducible rfl)
              try simp only [Act.put, List.setIfInBounds_toArray, List.set_cons_zero, List.set_cons_succ]
              refine wpAnyH_take (i := 9) (oi := ⟨some 49, _, _, _, _, _⟩) (v := ?_) (by rfl) (by kernel_rfl) (by kernel_rfl) (by kernel_rfl) (fun _ _ _ h => h) (Or.inl ⟨by rfl, ?hy⟩) (by assumption) ?_
              case hy => (intro w hSw; (try dsimp only at hSw); go_simp; try with_reducible rfl)
              try simp only [Act.put, List.setIfInBounds_toArray, List.set_cons_zero, List.set_cons_succ]
              refine wpAnyH_take (i := 10) (oi := ⟨some 50, _, _, _, _, _⟩) (v := ?_) (by rfl) (by kernel_rfl) (by kernel_rfl) (by kernel_rfl) (fun _ _ _ h => h) (Or.inl ⟨by rfl, ?hy⟩) (by assumption) ?_
              case hy => (intro w hSw; (try dsimp only at hSw); go_simp; try with_reducible rfl)
              try simp only [Act.put, List.setIfInBounds_toArray, List.set_cons_zero, List.set_cons_succ]
              refine wpAnyH_take (i := 11) (oi := ⟨some 51, _, _, _, _, _⟩) (v := ?_) (by rfl) (by kernel_rfl) (by kernel_rfl) (by kernel_rfl) (fun _ _ _ h => h) (Or.inl ⟨by rfl, ?hy⟩) (by assumption) ?_
              case hy => (intro w hSw; (try dsimp only at hSw); go_simp; try with_reducible rfl)
              try simp only [Act.put, List.setIfInBounds_toArray, List.set_cons_zero, List.set_cons_succ]
              refine wpAnyH_take (i := 12) (oi := ⟨some 52, _, _, _, _, _⟩) (v := ?_) (by rfl) (by kernel_rfl) (by kernel_rfl) (by kernel_rfl) (fun _ _ _ h => h) (Or.inl ⟨by rfl, ?hy⟩) (by assumption) ?_
              case hy => (intro w hSw; (try dsimp only at hSw); go_simp; try with_reducible rfl)
              try simp only [Act.put, List.setIfInBounds_toArray, List.set_cons_zero, List.set_cons_succ]
              refine wpAnyH_take (i := 13) (oi := ⟨some 53, _, _, _, _, _⟩) (v := ?_) (by rfl) (by kernel_rfl) (by kernel_rfl) (by kernel_rfl) (fun _ _ _ h => h) (Or.inl ⟨by rfl, ?hy⟩) (by assumption) ?_
              case hy => (intro w hSw; (try dsimp only at hSw); go_simp; try with_reducible rfl)
              try simp only [Act.put, List.setIfInBounds_toArray, List.set_cons_zero, List.set_cons_succ]
              refine wpAnyH_take (i := 14) (oi := ⟨some 54, _, _, _, _, _⟩) (v := ?_) (by rfl) (by kernel_rfl) (by kernel_rfl) (by kernel_rfl) (fun _ _ _ h => h) (Or.inl ⟨by rfl, ?hy⟩) (by assumption) ?_
              case hy => (intro w hSw; (try dsimp only at hSw); go_simp; try with_reducible rfl)
              try simp only [Act.put, List.setIfInBounds_toArray, List.set_cons_zero, List.set_cons_succ]
              refine wpAnyH_take (i := 15) (oi := ⟨some 55, _, _, _, _, _⟩) (v := ?_) (by rfl) (by kernel_rfl) (by kernel_rfl) (by kernel_rfl) (fun _ _ _ h => h) (Or.inl ⟨by rfl, ?hy⟩) (by assumption) ?_
              case hy => (intro w hSw; (try dsimp only at hSw); go_simp; try with_reducible rfl)
              try simp only [Act.put, List.setIfInBounds_toArray, List.set_cons_zero, List.set_cons_succ]
              refine wpAnyH_take (i := 16) (oi := ⟨some 56, _, _, _, _, _⟩) (v := ?_) (by rfl) (by kernel_rfl) (by kernel_rfl) (by kernel_rfl) (fun _ _ _ h => h) (Or.inl ⟨by rfl, ?hy⟩) (by assumption) ?_
              case hy => (intro w hSw; (try dsimp only at hSw); go_simp; try with_reducible rfl)
              try simp only [Act.put, List.setIfInBounds_toArray, List.set_cons_zero, List.set_cons_succ]
              refine wpAnyH_take (i := 17) (oi := ⟨some 57, _, _, _, _, _⟩) (v := ?_) (by rfl) (by kernel_rfl) (by kernel_rfl) (by kernel_rfl) (fun _ _ _ h => h) (Or.inl ⟨by rfl, ?hy⟩) (by assumption) ?_
              case hy => (intro w hSw; (try dsimp only at hSw); go_simp; try with_reducible rfl)
              try simp only [Act.put, List.setIfInBounds_toArray, List.set_cons_zero, List.set_cons_succ]
              refine wpAnyH_take (i := 18) (oi := ⟨some 58, _, _, _, _, _⟩) (v := ?_) (by rfl) (by kernel_rfl) (by kernel_rfl) (by kernel_rfl) (fun _ _ _ h => h) (Or.inl ⟨by rfl, ?hy⟩) (by assumption) ?_
              case hy => (intro w hSw; (try dsimp only at hSw); go_simp; try with_reducible rfl)
              try simp only [Act.put, List.setIfInBounds_toArray, List.set_cons_zero, List.set_cons_succ]
              refine wpAnyH_take (i := 19) (oi := ⟨some 59, _, _, _, _, _⟩) (v := ?_) (by rfl) (by kernel_rfl) (by kernel_rfl) (by kernel_rfl) (fun _ _ _ h => h) (Or.inl ⟨by rfl, ?hy⟩) (by assumption) ?_
              case hy => (intro w hSw; (try dsimp only at hSw); go_simp; try with_reducible rfl)
              try simp only [Act.put, List.setIfInBounds_toArray, List.set_cons_zero, List.set_cons_succ]
              refine wpAnyH_take (i := 20) (oi := ⟨some 60, _, _, _, _, _⟩) (v := ?_) (by rfl) (by kernel_rfl) (by kernel_rfl) (by kernel_rfl) (fun _ _ _ h => h) (Or.inl ⟨by rfl, ?hy⟩) (by assumption) ?_
              case hy => (intro w hSw; (try dsimp only at hSw); go_simp; try with_reducible rfl)
              try simp only [Act.put, List.setIfInBounds_toArray, List.set_cons_zero, List.set_cons_succ]
              refine wpAnyH_ready (rs := [21]) (by kernel_rfl) (by simp) ?_
              refine AllReadyH.cons (o := ⟨some 61, _, _, _, _, _⟩) (by rfl) (fun K hK => ?_) ?_
              · (go_simp; (go_at_call 16; ((with_reducible refine (R3.out _ hHeld.2.2).mono ?_); rintro e w16 ⟨rfl, hD16⟩; have hb16 := hD16.below w15.heap.size)); go_wp2_with fail)
                refine hK.out _ _ ?_ (fun hHeld => ?_)
                · first | exact hHeld | exact hr_0 hX13 hY13 hA13 | exact hr_1 hHeld.2.2 (by assumption) | exact hr_e hHeld.2.2 hne1 hne2 hA17 hg17
                clear hK K
                try simp only [Act.put, List.setIfInBounds_toArray, List.set_cons_zero, List.set_cons_succ]
                refine wpAnyH_take (i := 22) (oi := ⟨some 62, _, _, _, _, _⟩) (v := ?_) (by rfl) (by kernel_rfl) (by kernel_rfl) (by kernel_rfl) (fun _ _ _ h => h) (Or.inl ⟨by rfl, ?hy⟩) (by assumption) ?_
                case hy => (intro w hSw; (try dsimp only at hSw); go_simp; try with_reducible rfl)
                try simp only [Act.put, List.setIfInBounds_toArray, List.set_cons_zero, List.set_cons_succ]
                refine wpAnyH_take (i := 23) (oi := ⟨some 63, _, _, _, _, _⟩) (v := ?_) (by rfl) (by kernel_rfl) (by kernel_rfl) (by kernel_rfl) (fun _ _ _ h => h) (Or.inl ⟨by rfl, ?hy⟩) (by assumption) ?_
                case hy => (intro w hSw; (try dsimp only at hSw); go_simp; try with_reducible rfl)
                try simp only [Act.put, List.setIfInBounds_toArray, List.set_cons_zero, List.set_cons_succ]
                refine wpAnyH_take (i := 24) (oi := ⟨some 64, _, _, _, _, _⟩) (v := _) (by rfl) (by kernel_rfl) (by kernel_rfl) (by kernel_rfl) (fun _ _ _ h => h) (yieldsIf_load_mid (by rfl) _ _ rfl _ _ rfl _ _ (fun w hSw => hSw.2.1) hu12 rfl hz12) (by assumption) ?_
                try simp only [Act.put, List.setIfInBounds_toArray, List.set_cons_zero, List.set_cons_succ]
                refine wpAnyH_take (i := 25) (oi := ⟨some 65, _, _, _, _, _⟩) (v := _) (by rfl) (by kernel_rfl) (by kernel_rfl) (by kernel_rfl) (fun _ _ _ h => h) (yieldsIf_load_mid (by rfl) _ _ rfl _ _ rfl _ _ (fun w hSw => hSw.1) hu12 rfl hz12) (by assumption) ?_
                try simp only [Act.put, List.setIfInBounds_toArray, List.set_cons_zero, List.set_cons_succ]
                refine wpAnyH_take (i := 26) (oi := ⟨some 66, _, _, _, _, _⟩) (v := ?_) (by rfl) (by kernel_rfl) (by kernel_rfl) (by kernel_rfl) (fun _ _ _ h => h) (Or.inl ⟨by rfl, ?hy⟩) (by assumption) ?_
                case hy => (intro w hSw; (try dsimp only at hSw); go_simp; try with_reducible rfl)
                try simp only [Act.put, List.setIfInBounds_toArray, List.set_cons_zero, List.set_cons_succ]
                refine wpAnyH_take (i := 27) (oi := ⟨some 67, _, _, _, _, _⟩) (v := ?_) (by rfl) (by kernel_rfl) (by kernel_rfl) (by kernel_rfl) (fun _ _ _ h => h) (Or.inl ⟨by rfl, ?hy⟩) (by assumption) ?_
                case hy => (intro w hSw; (try dsimp only at hSw); go_simp; try with_reducible rfl)
                try simp only [Act.put, List.setIfInBounds_toArray, List.set_cons_zero, List.set_cons_succ]
                refine wpAnyH_take (i := 28) (oi := ⟨some 68, _, _, _, _, _⟩) (v := ?_) (by rfl) (by kernel_rfl) (by kernel_rfl) (by kernel_rfl) (fun _ _ _ h => h) (Or.inl ⟨by rfl, ?hy⟩) (by assumption) ?_
                case hy => (intro w hSw; (try dsimp only at hSw); go_simp; try with_reducible rfl)
                try simp only [Act.put, List.setIfInBounds_toArray, List.set_cons_zero, List.set_cons_succ]
                refine wpAnyH_take (i := 29) (oi := ⟨some 69, _, _, _, _, _⟩) (v := ?_) (by rfl) (by kernel_rfl) (by kernel_rfl) (by kernel_rfl) (fun _ _ _ h => h) (Or.inl ⟨by rfl, ?hy⟩) (by assumption) ?_
                case hy => (intro w hSw; (try dsimp only at hSw); go_simp; try with_reducible rfl)
                try simp only [Act.put, List.setIfInBounds_toArray, List.set_cons_zero, List.set_cons_succ]
                refine wpAnyH_ready (rs := [30]) (by kernel_rfl) (by simp) ?_
                refine AllReadyH.cons (o := ⟨some 70, _, _, _, _, _⟩) (by rfl) (fun K hK => ?_) ?_
                · (go_simp; (go_at_call 17; ((with_reducible refine (R4.out _ hHeld.2.2).mono ?_); rintro e w17 ⟨rfl, hA17, hg17⟩)); go_wp2_with fail)
                  refine hK.out _ _ ?_ (fun hHeld => ?_)
                  · first | exact hHeld | exact hr_0 hX13 hY13 hA13 | exact hr_1 hHeld.2.2 (by assumption) | exact hr_e hHeld.2.2 hne1 hne2 hA17 hg17
                  clear hK K
                  try simp only [Act.put, List.setIfInBounds_toArray, List.set_cons_zero, List.set_cons_succ]
                  refine wpAnyH_take (i := 31) (oi := ⟨some 71, _, _, _, _, _⟩) (v := ?_) (by rfl) (by kernel_rfl) (by kernel_rfl) (by kernel_rfl) (fun _ _ _ h => h) (Or.inl ⟨by rfl, ?hy⟩) (by assumption) ?_
                  case hy => (intro w hSw; (try dsimp only at hSw); go_simp; try with_reducible rfl)
                  try simp only [Act.put, List.setIfInBounds_toArray, List.set_cons_zero, List.set_cons_succ]
                  refine wpAnyH_take (i := 32) (oi := ⟨some 72, _, _, _, _, _⟩) (v := ?_) (by rfl) (by kernel_rfl) (by kernel_rfl) (by kernel_rfl) (fun _ _ _ h => h) (Or.inl ⟨by rfl, ?hy⟩) (by assumption) ?_
                  case hy => (intro w hSw; (try dsimp only at hSw); go_simp; try with_reducible rfl)
                  try simp only [Act.put, List.setIfInBounds_toArray, List.set_cons_zero, List.set_cons_succ]
                  refine wpAnyH_take (i := 33) (oi := ⟨some 4, _, _, _, _, _⟩) (v := ?_) (by rfl) (by kernel_rfl) (by kernel_rfl) (by kernel_rfl) (fun _ _ _ h => h) (Or.inl ⟨by rfl, ?hy⟩) (by assumption) ?_
                  case hy => (intro w hSw; (try dsimp only at hSw); go_simp; try with_reducible rfl)
                  try simp only [Act.put, List.setIfInBounds_toArray, List.set_cons_zero, List.set_cons_succ]
                  refine wpAnyH_done (by kernel_rfl) ?_ _
                  have hfin := hr_b hHeld.2.2 hB13 hg0
                  go_wp2_with fail
                  go_ret
                  exact ⟨rfl, hfin⟩
                exact AllReadyH.nil
              exact AllReadyH.nil
            exact AllReadyH.nil
          exact AllReadyH.nil
        refine AllReadyH.cons (o := ⟨some 46, _, _, _, _, _⟩) (by rfl) (fun K hK => ?_) ?_
        · (go_simp; (go_at_call 15; ((with_reducible refine (R2.out _).mono ?_); rintro e w15 ⟨⟨A6, n6, c6, rfl, hO6⟩, hb6⟩; have hcv5 := cv5.out w15 A5 n5 c5 _ (hO5.keep hb6); have hcv6 := cv6.out w15 A6 n6 c6 _ hO6)); go_wp2_with fail)
          refine hK.out _ _ ?_ (fun hHeld => ?_)
          · first | exact hHeld | exact hr_0 hX13 hY13 hA13 | exact hr_1 hHeld.2.2 (by assumption) | exact hr_e hHeld.2.2 hne1 hne2 hA17 hg17
          clear hK K
          try simp only [Act.put, List.setIfInBounds_toArray, List.set_cons_zero, List.set_cons_succ]
          refine wpAnyH_ready (rs := [4, 7]) (by kernel_rfl) (by simp) ?_
          refine AllReadyH.cons (o := ⟨some 44, _, _, _, _, _⟩) (by rfl) (fun K hK => ?_) ?_
          · (go_simp)
            refine hK.out _ _ ?_ (fun hHeld => ?_)
            · first | exact hHeld | exact hr_0 hX13 hY13 hA13 | exact hr_1 hHeld.2.2 (by assumption) | exact hr_e hHeld.2.2 hne1 hne2 hA17 hg17
            clear hK K
            try simp only [Act.put, List.setIfInBounds_toArray, List.set_cons_zero, List.set_cons_succ]
            refine wpAnyH_ready (rs := [7]) (by kernel_rfl) (by simp) ?_
            refine AllReadyH.cons (o := ⟨some 47, _, _, _, _, _⟩) (by rfl) (fun K hK => ?_) ?_
            · (go_simp)
              refine hK.out _ _ ?_ (fun hHeld => ?_)
              · first | exact hHeld | exact hr_0 hX13 hY13 hA13 | exact hr_1 hHeld.2.2 (by assumption) | exact hr_e hHeld.2.2 hne1 hne2 hA17 hg17
              clear hK K
              try simp only [Act.put, List.setIfInBounds_toArray, List.set_cons_zero, List.set_cons_succ]
              refine wpAnyH_take (i := 8) (oi := ⟨some 48, _, _, _, _, _⟩) (v := ?_) (by rfl) (by kernel_rfl) (by kernel_rfl) (by kernel_rfl) (fun _ _ _ h => h) (Or.inl ⟨by rfl, ?hy⟩) (by assumption) ?_
              case hy => (intro w hSw; (try dsimp only at hSw); go_simp; try with_reducible rfl)
              try simp only [Act.put, List.setIfInBounds_toArray, List.set_cons_zero, List.set_cons_succ]
              refine wpAnyH_take (i := 9) (oi := ⟨some 49, _, _, _, _, _⟩) (v := ?_) (by rfl) (by kernel_rfl) (by kernel_rfl) (by kernel_rfl) (fun _ _ _ h => h) (Or.inl ⟨by rfl, ?hy⟩) (by assumption) ?_
              case hy => (intro w hSw; (try dsimp only at hSw); go_simp; try with_reducible rfl)
              try simp only [Act.put, List.setIfInBounds_toArray, List.set_cons_zero, List.set_cons_succ]
              refine wpAnyH_take (i := 10) (oi := ⟨some 50, _, _, _, _, _⟩) (v := ?_) (by rfl) (by kernel_rfl) (by kernel_rfl) (by kernel_rfl) (fun _ _ _ h => h) (Or.inl ⟨by rfl, ?hy⟩) (by assumption) ?_
              case hy => (intro w hSw; (try dsimp only at hSw); go_simp; try with_reducible rfl)
              try simp only [Act.put, List.setIfInBounds_toArray, List.set_cons_zero, List.set_cons_succ]
              refine wpAnyH_take (i := 11) (oi := ⟨some 51, _, _, _, _, _⟩) (v := ?_) (by rfl) (by kernel_rfl) (by kernel_rfl) (by kernel_rfl) (fun _ _ _ h => h) (Or.inl ⟨by rfl, ?hy⟩) (by assumption) ?_
              case hy => (intro w hSw; (try dsimp only at hSw); go_simp; try with_reducible rfl)
              try simp only [Act.put, List.setIfInBounds_toArray, List.set_cons_zero, List.set_cons_succ]
              refine wpAnyH_take (i := 12) (oi := ⟨some 52, _, _, _, _, _⟩) (v := ?_) (by rfl) (by kernel_rfl) (by kernel_rfl) (by kernel_rfl) (fun _ _ _ h => h) (Or.inl ⟨by rfl, ?hy⟩) (by assumption) ?_
              case hy => (intro w hSw; (try dsimp only at hSw); go_simp; try with_reducible rfl)
              try simp only [Act.put, List.setIfInBounds_toArray, List.set_cons_zero, List.set_cons_succ]
              refine wpAnyH_take (i := 13) (oi := ⟨some 53, _, _, _, _, _⟩) (v := ?_) (by rfl) (by kernel_rfl) (by kernel_rfl) (by kernel_rfl) (fun _ _ _ h => h) (Or.inl ⟨by rfl, ?hy⟩) (by assumption) ?_
              case hy => (intro w hSw; (try dsimp only at hSw); go_simp; try with_reducible rfl)
              try simp only [Act.put, List.setIfInBounds_toArray, List.set_cons_zero, List.set_cons_succ]
              refine wpAnyH_take (i := 14) (oi := ⟨some 54, _, _, _, _, _⟩) (v := ?_) (by rfl) (by kernel_rfl) (by kernel_rfl) (by kernel_rfl) (fun _ _ _ h => h) (Or.inl ⟨by rfl, ?hy⟩) (by assumption) ?_
              case hy => (intro w hSw; (try dsimp only at hSw); go_simp; try with_reducible rfl)
              try simp only [Act.put, List.setIfInBounds_toArray, List.set_cons_zero, List.set_cons_succ]
              refine wpAnyH_take (i := 15) (oi := ⟨some 55, _, _, _, _, _⟩) (v := ?_) (by rfl) (by kernel_rfl) (by kernel_rfl) (by kernel_rfl) (fun _ _ _ h => h) (Or.inl ⟨by rfl, ?hy⟩) (by assumption) ?_
              case hy => (intro w hSw; (try dsimp only at hSw); go_simp; try with_reducible rfl)
              try simp only [Act.put, List.setIfInBounds_toArray, List.set_cons_zero, List.set_cons_succ]
              refine wpAnyH_take (i := 16) (oi := ⟨some 56, _, _, _, _, _⟩) (v := ?_) (by rfl) (by kernel_rfl) (by kernel_rfl) (by kernel_rfl) (fun _ _ _ h => h) (Or.inl ⟨by rfl, ?hy⟩) (by assumption) ?_
              case hy => (intro w hSw; (try dsimp only at hSw); go_simp; try with_reducible rfl)
              try simp only [Act.put, List.setIfInBounds_toArray, List.set_cons_zero, List.set_cons_succ]
              refine wpAnyH_take (i := 17) (oi := ⟨some 57, _, _, _, _, _⟩) (v := ?_) (by rfl) (by kernel_rfl) (by kernel_rfl) (by kernel_rfl) (fun _ _ _ h => h) (Or.inl ⟨by rfl, ?hy⟩) (by assumption) ?_
              case hy => (intro w hSw; (try dsimp only at hSw); go_simp; try with_reducible rfl)
              try simp only [Act.put, List.setIfInBounds_toArray, List.set_cons_zero, List.set_cons_succ]
              refine wpAnyH_take (i := 18) (oi := ⟨some 58, _, _, _, _, _⟩) (v := ?_) (by rfl) (by kernel_rfl) (by kernel_rfl) (by kernel_rfl) (fun _ _ _ h => h) (Or.inl ⟨by rfl, ?hy⟩) (by assumption) ?_
              case hy => (intro w hSw; (try dsimp only at hSw); go_simp; try with_reducible rfl)
              try simp only [Act.put, List.setIfInBounds_toArray, List.set_cons_zero, List.set_cons_succ]
              refine wpAnyH_take (i := 19) (oi := ⟨some 59, _, _, _, _, _⟩) (v := ?_) (by rfl) (by kernel_rfl) (by kernel_rfl) (by kernel_rfl) (fun _ _ _ h => h) (Or.inl ⟨by rfl, ?hy⟩) (by assumption) ?_
              case hy => (intro w hSw; (try dsimp only at hSw); go_simp; try with_reducible rfl)
              try simp only [Act.put, List.setIfInBounds_toArray, List.set_cons_zero, List.set_cons_succ]
              refine wpAnyH_take (i := 20) (oi := ⟨some 60, _, _, _, _, _⟩) (v := ?_) (by rfl) (by kernel_rfl) (by kernel_rfl) (by kernel_rfl) (fun _ _ _ h => h) (Or.inl ⟨by rfl, ?hy⟩) (by assumption) ?_
              case hy => (intro w hSw; (try dsimp only at hSw); go_simp; try with_reducible rfl)
              try simp only [Act.put, List.setIfInBounds_toArray, List.set_cons_zero, List.set_cons_succ]
              refine wpAnyH_ready (rs := [21]) (by kernel_rfl) (by simp) ?_
              refine AllReadyH.cons (o := ⟨some 61, _, _, _, _, _⟩) (by rfl) (fun K hK => ?_) ?_
              · (go_simp; (go_at_call 16; ((with_reducible refine (R3.out _ hHeld.2.2).mono ?_); rintro e w16 ⟨rfl, hD16⟩; have hb16 := hD16.below w15.heap.size)); go_wp2_with fail)
                refine hK.out _ _ ?_ (fun hHeld => ?_)
                · first | exact hHeld | exact hr_0 hX13 hY13 hA13 | exact hr_1 hHeld.2.2 (by assumption) | exact hr_e hHeld.2.2 hne1 hne2 hA17 hg17
                clear hK K
                try simp only [Act.put, List.setIfInBounds_toArray, List.set_cons_zero, List.set_cons_succ]
                refine wpAnyH_take (i := 22) (oi := ⟨some 62, _, _, _, _, _⟩) (v := ?_) (by rfl) (by kernel_rfl) (by kernel_rfl) (by kernel_rfl) (fun _ _ _ h => h) (Or.inl ⟨by rfl, ?hy⟩) (by assumption) ?_
                case hy => (intro w hSw; (try dsimp only at hSw); go_simp; try with_reducible rfl)
                try simp only [Act.put, List.setIfInBounds_toArray, List.set_cons_zero, List.set_cons_succ]
                refine wpAnyH_take (i := 23) (oi := ⟨some 63, _, _, _, _, _⟩) (v := ?_) (by rfl) (by kernel_rfl) (by kernel_rfl) (by kernel_rfl) (fun _ _ _ h => h) (Or.inl ⟨by rfl, ?hy⟩) (by assumption) ?_
                case hy => (intro w hSw; (try dsimp only at hSw); go_simp; try with_reducible rfl)
                try simp only [Act.put, List.setIfInBounds_toArray, List.set_cons_zero, List.set_cons_succ]
                refine wpAnyH_take (i := 24) (oi := ⟨some 64, _, _, _, _, _⟩) (v := _) (by rfl) (by kernel_rfl) (by kernel_rfl) (by kernel_rfl) (fun _ _ _ h => h) (yieldsIf_load_mid (by rfl) _ _ rfl _ _ rfl _ _ (fun w hSw => hSw.2.1) hu12 rfl hz12) (by assumption) ?_
                try simp only [Act.put, List.setIfInBounds_toArray, List.set_cons_zero, List.set_cons_succ]
                refine wpAnyH_take (i := 25) (oi := ⟨some 65, _, _, _, _, _⟩) (v := _) (by rfl) (by kernel_rfl) (by kernel_rfl) (by kernel_rfl) (fun _ _ _ h => h) (yieldsIf_load_mid (by rfl) _ _ rfl _ _ rfl _ _ (fun w hSw => hSw.1) hu12 rfl hz12) (by assumption) ?_
                try simp only [Act.put, List.setIfInBounds_toArray, List.set_cons_zero, List.set_cons_succ]
                refine wpAnyH_take (i := 26) (oi := ⟨some 66, _, _, _, _, _⟩) (v := ?_) (by rfl) (by kernel_rfl) (by kernel_rfl) (by kernel_rfl) (fun _ _ _ h => h) (Or.inl ⟨by rfl, ?hy⟩) (by assumption) ?_
                case hy => (intro w hSw; (try dsimp only at hSw); go_simp; try with_reducible rfl)
                try simp only [Act.put, List.setIfInBounds_toArray, List.set_cons_zero, List.set_cons_succ]
                refine wpAnyH_take (i := 27) (oi := ⟨some 67, _, _, _, _, _⟩) (v := ?_) (by rfl) (by kernel_rfl) (by kernel_rfl) (by kernel_rfl) (fun _ _ _ h => h) (Or.inl ⟨by rfl, ?hy⟩) (by assumption) ?_
                case hy => (intro w hSw; (try dsimp only at hSw); go_simp; try with_reducible rfl)
                try simp only [Act.put, List.setIfInBounds_toArray, List.set_cons_zero, List.set_cons_succ]
                refine wpAnyH_take (i := 28) (oi := ⟨some 68, _, _, _, _, _⟩) (v := ?_) (by rfl) (by kernel_rfl) (by kernel_rfl) (by kernel_rfl) (fun _ _ _ h => h) (Or.inl ⟨by rfl, ?hy⟩) (by assumption) ?_
                case hy => (intro w hSw; (try dsimp only at hSw); go_simp; try with_reducible rfl)
                try simp only [Act.put, List.setIfInBounds_toArray, List.set_cons_zero, List.set_cons_succ]
                refine wpAnyH_take (i := 29) (oi := ⟨some 69, _, _, _, _, _⟩) (v := ?_) (by rfl) (by kernel_rfl) (by kernel_rfl) (by kernel_rfl) (fun _ _ _ h => h) (Or.inl ⟨by rfl, ?hy⟩) (by assumption) ?_
                case hy => (intro w hSw; (try dsimp only at hSw); go_simp; try with_reducible rfl)
                try simp only [Act.put, List.setIfInBounds_toArray, List.set_cons_zero, List.set_cons_succ]
                refine wpAnyH_ready (rs := [30]) (by kernel_rfl) (by simp) ?_
                refine AllReadyH.cons (o := ⟨some 70, _, _, _, _, _⟩) (by rfl) (fun K hK => ?_) ?_
                · (go_simp; (go_at_call 17; ((with_reducible refine (R4.out _ hHeld.2.2).mono ?_); rintro e w17 ⟨rfl, hA17, hg17⟩)); go_wp2_with fail)
                  refine hK.out _ _ ?_ (fun hHeld => ?_)
                  · first | exact hHeld | exact hr_0 hX13 hY13 hA13 | exact hr_1 hHeld.2.2 (by assumption) | exact hr_e hHeld.2.2 hne1 hne2 hA17 hg17
                  clear hK K
                  try simp only [Act.put, List.setIfInBounds_toArray, List.set_cons_zero, List.set_cons_succ]
                  refine wpAnyH_take (i := 31) (oi := ⟨some 71, _, _, _, _, _⟩) (v := ?_) (by rfl) (by kernel_rfl) (by kernel_rfl) (by kernel_rfl) (fun _ _ _ h => h) (Or.inl ⟨by rfl, ?hy⟩) (by assumption) ?_
                  case hy => (intro w hSw; (try dsimp only at hSw); go_simp; try with_reducible rfl)
                  try simp only [Act.put, List.setIfInBounds_toArray, List.set_cons_zero, List.set_cons_succ]
                  refine wpAnyH_take (i := 32) (oi := ⟨some 72, _, _, _, _, _⟩) (v := ?_) (by rfl) (by kernel_rfl) (by kernel_rfl) (by kernel_rfl) (fun _ _ _ h => h) (Or.inl ⟨by rfl, ?hy⟩) (by assumption) ?_
                  case hy => (intro w hSw; (try dsimp only at hSw); go_simp; try with_reducible rfl)
                  try simp only [Act.put, List.setIfInBounds_toArray, List.set_cons_zero, List.set_cons_succ]
                  refine wpAnyH_take (i := 33) (oi := ⟨some 4, _, _, _, _, _⟩) (v := ?_) (by rfl) (by kernel_rfl) (by kernel_rfl) (by kernel_rfl) (fun _ _ _ h => h) (Or.inl ⟨by rfl, ?hy⟩) (by assumption) ?_
                  case hy => (intro w hSw; (try dsimp only at hSw); go_simp; try with_reducible rfl)
                  try simp only [Act.put, List.setIfInBounds_toArray, List.set_cons_zero, List.set_cons_succ]
                  refine wpAnyH_done (by kernel_rfl) ?_ _
                  have hfin := hr_b hHeld.2.2 hB13 hg0
                  go_wp2_with fail
                  go_ret
                  exact ⟨rfl, hfin⟩
                exact AllReadyH.nil
              exact AllReadyH.nil
            exact AllReadyH.nil
          refine AllReadyH.cons (o := ⟨some 47, _, _, _, _, _⟩) (by rfl) (fun K hK => ?_) ?_
          · (go_simp)
            refine hK.out _ _ ?_ (fun hHeld => ?_)
            · first | exact hHeld | exact hr_0 hX13 hY13 hA13 | exact hr_1 hHeld.2.2 (by assumption) | exact hr_e hHeld.2.2 hne1 hne2 hA17 hg17
            clear hK K
            try simp only [Act.put, List.setIfInBounds_toArray, List.set_cons_zero, List.set_cons_succ]
            refine wpAnyH_ready (rs := [4]) (by kernel_rfl) (by simp) ?_
            refine AllReadyH.cons (o := ⟨some 44, _, _, _, _, _⟩) (by rfl) (fun K hK => ?_) ?_
            · (go_simp)
              refine hK.out _ _ ?_ (fun hHeld => ?_)
              · first | exact hHeld | exact hr_0 hX13 hY13 hA13 | exact hr_1 hHeld.2.2 (by assumption) | exact hr_e hHeld.2.2 hne1 hne2 hA17 hg17
              clear hK K
              try simp only [Act.put, List.setIfInBounds_toArray, List.set_cons_zero, List.set_cons_succ]
              refine wpAnyH_take (i := 8) (oi := ⟨some 48, _, _, _, _, _⟩) (v := ?_) (by rfl) (by kernel_rfl) (by kernel_rfl) (by kernel_rfl) (fun _ _ _ h => h) (Or.inl ⟨by rfl, ?hy⟩) (by assumption) ?_
              case hy => (intro w hSw; (try dsimp only at hSw); go_simp; try with_reducible rfl)
              try simp only [Act.put, List.setIfInBounds_toArray, List.set_cons_zero, List.set_cons_succ]
              refine wpAnyH_take (i := 9) (oi := ⟨some 49, _, _, _, _, _⟩) (v := ?_) (by rfl) (by kernel_rfl) (by kernel_rfl) (by kernel_rfl) (fun _ _ _ h => h) (Or.inl ⟨by rfl, ?hy⟩) (by assumption) ?_
              case hy => (intro w hSw; (try dsimp only at hSw); go_simp; try with_reducible rfl)
              try simp only [Act.put, List.setIfInBounds_toArray, List.set_cons_zero, List.set_cons_succ]
              refine wpAnyH_take (i := 10) (oi := ⟨some 50, _, _, _, _, _⟩) (v := ?_) (by rfl) (by kernel_rfl) (by kernel_rfl) (by kernel_rfl) (fun _ _ _ h => h) (Or.inl ⟨by rfl, ?hy⟩) (by assumption) ?_
              case hy => (intro w hSw; (try dsimp only at hSw); go_simp; try with_reducible rfl)
              try simp only [Act.put, List.setIfInBounds_toArray, List.set_cons_zero, List.set_cons_succ]
              refine wpAnyH_take (i := 11) (oi := ⟨some 51, _, _, _, _, _⟩) (v := ?_) (by rfl) (by kernel_rfl) (by kernel_rfl) (by kernel_rfl) (fun _ _ _ h => h) (Or.inl ⟨by rfl, ?hy⟩) (by assumption) ?_
              case hy => (intro w hSw; (try dsimp only at hSw); go_simp; try with_reducible rfl)
              try simp only [Act.put, List.setIfInBounds_toArray, List.set_cons_zero, List.set_cons_succ]
              refine wpAnyH_take (i := 12) (oi := ⟨some 52, _, _, _, _, _⟩) (v := ?_) (by rfl) (by kernel_rfl) (by kernel_rfl) (by kernel_rfl) (fun _ _ _ h => h) (Or.inl ⟨by rfl, ?hy⟩) (by assumption) ?_
              case hy => (intro w hSw; (try dsimp only at hSw); go_simp; try with_reducible rfl)
              try simp only [Act.put, List.setIfInBounds_toArray, List.set_cons_zero, List.set_cons_succ]
              refine wpAnyH_take (i := 13) (oi := ⟨some 53, _, _, _, _, _⟩) (v := ?_) (by rfl) (by kernel_rfl) (by kernel_rfl) (by kernel_rfl) (fun _ _ _ h => h) (Or.inl ⟨by rfl, ?hy⟩) (by assumption) ?_
              case hy => (intro w hSw; (try dsimp only at hSw); go_simp; try with_reducible rfl)
              try simp only [Act.put, List.setIfInBounds_toArray, List.set_cons_zero, List.set_cons_succ]
              refine wpAnyH_take (i := 14) (oi := ⟨some 54, _, _, _, _, _⟩) (v := ?_) (by rfl) (by kernel_rfl) (by kernel_rfl) (by kernel_rfl) (fun _ _ _ h => h) (Or.inl ⟨by rfl, ?hy⟩) (by assumption) ?_
              case hy => (intro w hSw; (try dsimp only at hSw); go_simp; try with_reducible rfl)
              try simp only [Act.put, List.setIfInBounds_toArray, List.set_cons_zero, List.set_cons_succ]
              refine wpAnyH_take (i := 15) (oi := ⟨some 55, _, _, _, _, _⟩) (v := ?_) (by rfl) (by kernel_rfl) (by kernel_rfl) (by kernel_rfl) (fun _ _ _ h => h) (Or.inl ⟨by rfl, ?hy⟩) (by assumption) ?_
              case hy => (intro w hSw; (try dsimp only at hSw); go_simp; try with_reducible rfl)
              try simp only [Act.put, List.setIfInBounds_toArray, List.set_cons_zero, List.set_cons_succ]
              refine wpAnyH_take (i := 16) (oi := ⟨some 56, _, _, _, _, _⟩) (v := ?_) (by rfl) (by kernel_rfl) (by kernel_rfl) (by kernel_rfl) (fun _ _ _ h => h) (Or.inl ⟨by rfl, ?hy⟩) (by assumption) ?_
              case hy => (intro w hSw; (try dsimp only at hSw); go_simp; try with_reducible rfl)
              try simp only [Act.put, List.setIfInBounds_toArray, List.set_cons_zero, List.set_cons_succ]
              refine wpAnyH_take (i := 17) (oi := ⟨some 57, _, _, _, _, _⟩) (v := ?_) (by rfl) (by kernel_rfl) (by kernel_rfl) (by kernel_rfl) (fun _ _ _ h => h) (Or.inl ⟨by rfl, ?hy⟩) (by assumption) ?_
              case hy => (intro w hSw; (try dsimp only at hSw); go_simp; try with_reducible rfl)
              try simp only [Act.put, List.setIfInBounds_toArray, List.set_cons_zero, List.set_cons_succ]
              refine wpAnyH_take (i := 18) (oi := ⟨some 58, _, _, _, _, _⟩) (v := ?_) (by rfl) (by kernel_rfl) (by kernel_rfl) (by kernel_rfl) (fun _ _ _ h => h) (Or.inl ⟨by rfl, ?hy⟩) (by assumption) ?_
              case hy => (intro w hSw; (try dsimp only at hSw); go_simp; try with_reducible rfl)
              try simp only [Act.put, List.setIfInBounds_toArray, List.set_cons_zero, List.set_cons_succ]
              refine wpAnyH_take (i := 19) (oi := ⟨some 59, _, _, _, _, _⟩) (v := ?_) (by rfl) (by kernel_rfl) (by kernel_rfl) (by kernel_rfl) (fun _ _ _ h => h) (Or.inl ⟨by rfl, ?hy⟩) (by assumption) ?_
              case hy => (intro w hSw; (try dsimp only at hSw); go_simp; try with_reducible rfl)
              try simp only [Act.put, List.setIfInBounds_toArray, List.set_cons_zero, List.set_cons_succ]
              refine wpAnyH_take (i := 20) (oi := ⟨some 60, _, _, _, _, _⟩) (v := ?_) (by rfl) (by kernel_rfl) (by kernel_rfl) (by kernel_rfl) (fun _ _ _ h => h) (Or.inl ⟨by rfl, ?hy⟩) (by assumption) ?_
              case hy => (intro w hSw; (try dsimp only at hSw); go_simp; try with_reducible rfl)
              try simp only [Act.put, List.setIfInBounds_toArray, List.set_cons_zero, List.set_cons_succ]
              refine wpAnyH_ready (rs := [21]) (by kernel_rfl) (by simp) ?_
              refine AllReadyH.cons (o := ⟨some 61, _, _, _, _, _⟩) (by rfl) (fun K hK => ?_) ?_
              · (go_simp; (go_at_call 16; ((with_reducible refine (R3.out _ hHeld.2.2).mono ?_); rintro e w16 ⟨rfl, hD16⟩; have hb16 := hD16.below w15.heap.size)); go_wp2_with fail)
                refine hK.out _ _ ?_ (fun hHeld => ?_)
                · first | exact hHeld | exact hr_0 hX13 hY13 hA13 | exact hr_1 hHeld.2.2 (by assumption) | exact hr_e hHeld.2.2 hne1 hne2 hA17 hg17
                clear hK K
                try simp only [Act.put, List.setIfInBounds_toArray, List.set_cons_zero, List.set_cons_succ]
                refine wpAnyH_take (i := 22) (oi := ⟨some 62, _, _, _, _, _⟩) (v := ?_) (by rfl) (by kernel_rfl) (by kernel_rfl) (by kernel_rfl) (fun _ _ _ h => h) (Or.inl ⟨by rfl, ?hy⟩) (by assumption) ?_
                case hy => (intro w hSw; (try dsimp only at hSw); go_simp; try with_reducible rfl)
                try simp only [Act.put, List.setIfInBounds_toArray, List.set_cons_zero, List.set_cons_succ]
                refine wpAnyH_take (i := 23) (oi := ⟨some 63, _, _, _, _, _⟩) (v := ?_) (by rfl) (by kernel_rfl) (by kernel_rfl) (by kernel_rfl) (fun _ _ _ h => h) (Or.inl ⟨by rfl, ?hy⟩) (by assumption) ?_
                case hy => (intro w hSw; (try dsimp only at hSw); go_simp; try with_reducible rfl)
                try simp only [Act.put, List.setIfInBounds_toArray, List.set_cons_zero, List.set_cons_succ]
                refine wpAnyH_take (i := 24) (oi := ⟨some 64, _, _, _, _, _⟩) (v := _) (by rfl) (by kernel_rfl) (by kernel_rfl) (by kernel_rfl) (fun _ _ _ h => h) (yieldsIf_load_mid (by rfl) _ _ rfl _ _ rfl _ _ (fun w hSw => hSw.2.1) hu12 rfl hz12) (by assumption) ?_
                try simp only [Act.put, List.setIfInBounds_toArray, List.set_cons_zero, List.set_cons_succ]
                refine wpAnyH_take (i := 25) (oi := ⟨some 65, _, _, _, _, _⟩) (v := _) (by rfl) (by kernel_rfl) (by kernel_rfl) (by kernel_rfl) (fun _ _ _ h => h) (yieldsIf_load_mid (by rfl) _ _ rfl _ _ rfl _ _ (fun w hSw => hSw.1) hu12 rfl hz12) (by assumption) ?_
                try simp only [Act.put, List.setIfInBounds_toArray, List.set_cons_zero, List.set_cons_succ]
                refine wpAnyH_take (i := 26) (oi := ⟨some 66, _, _, _, _, _⟩) (v := ?_) (by rfl) (by kernel_rfl) (by kernel_rfl) (by kernel_rfl) (fun _ _ _ h => h) (Or.inl ⟨by rfl, ?hy⟩) (by assumption) ?_
                case hy => (intro w hSw; (try dsimp only at hSw); go_simp; try with_reducible rfl)
                try simp only [Act.put, List.setIfInBounds_toArray, List.set_cons_zero, List.set_cons_succ]
                refine wpAnyH_take (i := 27) (oi := ⟨some 67, _, _, _, _, _⟩) (v := ?_) (by rfl) (by kernel_rfl) (by kernel_rfl) (by kernel_rfl) (fun _ _ _ h => h) (Or.inl ⟨by rfl, ?hy⟩) (by assumption) ?_
                case hy => (intro w hSw; (try dsimp only at hSw); go_simp; try with_reducible rfl)
                try simp only [Act.put, List.setIfInBounds_toArray, List.set_cons_zero, List.set_cons_succ]
                refine wpAnyH_take (i := 28) (oi := ⟨some 68, _, _, _, _, _⟩) (v := ?_) (by rfl) (by kernel_rfl) (by kernel_rfl) (by kernel_rfl) (fun _ _ _ h => h) (Or.inl ⟨by rfl, ?hy⟩) (by assumption) ?_
                case hy => (intro w hSw; (try dsimp only at hSw); go_simp; try with_reducible rfl)
                try simp only [Act.put, List.setIfInBounds_toArray, List.set_cons_zero, List.set_cons_succ]
                refine wpAnyH_take (i := 29) (oi := ⟨some 69, _, _, _, _, _⟩) (v := ?_) (by rfl) (by kernel_rfl) (by kernel_rfl) (by kernel_rfl) (fun _ _ _ h => h) (Or.inl ⟨by rfl, ?hy⟩) (by assumption) ?_
                case hy => (intro w hSw; (try dsimp only at hSw); go_simp; try with_reducible rfl)
                try simp only [Act.put, List.setIfInBounds_toArray, List.set_cons_zero, List.set_cons_succ]
                refine wpAnyH_ready (rs := [30]) (by kernel_rfl) (by simp) ?_
                refine AllReadyH.cons (o := ⟨some 70, _, _, _, _, _⟩) (by rfl) (fun K hK => ?_) ?_
                · (go_simp; (go_at_call 17; ((with_reducible refine (R4.out _ hHeld.2.2).mono ?_); rintro e w17 ⟨rfl, hA17, hg17⟩)); go_wp2_with fail)
                  refine hK.out _ _ ?_ (fun hHeld => ?_)
                  · first | exact hHeld | exact hr_0 hX13 hY13 hA13 | exact hr_1 hHeld.2.2 (by assumption) | exact hr_e hHeld.2.2 hne1 hne2 hA17 hg17
                  clear hK K
                  try simp only [Act.put, List.setIfInBounds_toArray, List.set_cons_zero, List.set_cons_succ]
                  refine wpAnyH_take (i := 31) (oi := ⟨some 71, _, _, _, _, _⟩) (v := ?_) (by rfl) (by kernel_rfl) (by kernel_rfl) (by kernel_rfl) (fun _ _ _ h => h) (Or.inl ⟨by rfl, ?hy⟩) (by assumption) ?_
                  case hy => (intro w hSw; (try dsimp only at hSw); go_simp; try with_reducible rfl)
                  try simp only [Act.put, List.setIfInBounds_toArray, List.set_cons_zero, List.set_cons_succ]
                  refine wpAnyH_take (i := 32) (oi := ⟨some 72, _, _, _, _, _⟩) (v := ?_) (by rfl) (by kernel_rfl) (by kernel_rfl) (by kernel_rfl) (fun _ _ _ h => h) (Or.inl ⟨by rfl, ?hy⟩) (by assumption) ?_
                  case hy => (intro w hSw; (try dsimp only at hSw); go_simp; try with_reducible rfl)
                  try simp only [Act.put, List.setIfInBounds_toArray, List.set_cons_zero, List.set_cons_succ]
                  refine wpAnyH_take (i := 33) (oi := ⟨some 4, _, _, _, _, _⟩) (v := ?_) (by rfl) (by kernel_rfl) (by kernel_rfl) (by kernel_rfl) (fun _ _ _ h => h) (Or.inl ⟨by rfl, ?hy⟩) (by assumption) ?_
                  case hy => (intro w hSw; (try dsimp only at hSw); go_simp; try with_reducible rfl)
                  try simp only [Act.put, List.setIfInBounds_toArray, List.set_cons_zero, List.set_cons_succ]
                  refine wpAnyH_done (by kernel_rfl) ?_ _
                  have hfin := hr_b hHeld.2.2 hB13 hg0
                  go_wp2_with fail
                  go_ret
                  exact ⟨rfl, hfin⟩
                exact AllReadyH.nil
              exact AllReadyH.nil
            exact AllReadyH.nil
          exact AllReadyH.nil
        exact AllReadyH.nil
      exact AllReadyH.nil
      
    exact AllReadyH.nil
  exact AllReadyH.nil
theorem lawRollReach_all (S : Addr) (A : Option Addr) (n c : Nat) (l : List ByteArray) (a0 a1 a2 a3 a4 a5 a6 a7 a8 a9 a10 a11 : Int) (w : World) (hn : l.length = n) (hr : RdS w.heap.size w A l) (hm : n ≤ maxLen) (hs : ∀ x, x ∈ l → x.size ≤ maxLen) (hL : LaidP S w) :
    Calls Tryz.prog 3 #[.slice A n c, .agg (laI a0 a1 a2 a3 a4 a5 a6 a7 a8 a9 a10 a11)] w fun e w' => e = .returned (.bool true) ∧ Below w.heap.size w w' := by
  cases hg : goodR (dL l) with
  | false => exact lawRollReach_bad A n c l a0 a1 a2 a3 a4 a5 a6 a7 a8 a9 a10 a11 w hn hr hm hs (.inl hg)
  | true =>
    cases hgl : goodLa (laL a0 a1 a2 a3 a4 a5 a6 a7 a8 a9 a10 a11) with
    | false => exact lawRollReach_bad A n c l a0 a1 a2 a3 a4 a5 a6 a7 a8 a9 a10 a11 w hn hr hm hs (.inr ⟨hg, hgl⟩)
    | true => exact lawRollReach_good S A n c l a0 a1 a2 a3 a4 a5 a6 a7 a8 a9 a10 a11 w hn hr hL hg hgl
end Go.Proofs.YtnlnbgcmmlpniaaGreatDoor
