/-
  WHAT IS PROVED: the law of the statement RollGood answers true. Conditions: those typed in the theorem.
-/
import Derived.Test.YtnlnbgcmmlpniaaM5
import Derived.Test.YtnlnbgcmmlpniaaRGood
import Derived.Test.YtnlnbgcmmlpniaaM7
namespace Go.Proofs.Ytnlnbgcmmlpniaa
open Go.RowKit

set_option maxRecDepth 100000 in
set_option maxHeartbeats 2000000 in
theorem lawRollGood_many (A A2 : Option Addr) (n c m d : Nat) (a0 a1 a2 a3 a4 a5 a6 a7 a8 a9 a10 a11 : Int) (w : World) (hs : 200 < n ∨ (n ≤ 200 ∧ 200 < m)) :
    Calls Try.prog 3 #[.slice A n c, .agg (laI a0 a1 a2 a3 a4 a5 a6 a7 a8 a9 a10 a11), .slice A2 m d] w fun e w' => e = .returned (.bool true) ∧ Below w.heap.size w w' := by
  have hB := b0 w (.cells (laI a0 a1 a2 a3 a4 a5 a6 a7 a8 a9 a10 a11) 24)
  rcases hs with hs | ⟨h0, hs⟩
  · have i1 : (200 : Int) < (n : Int) := by omega
    have i2 : decide (200 < n) = true := decide_eq_true hs
    go_enter Try.func3, Try.ntmps3
    go_wp2_with first
      | (go_at_call 4; refine (rollAwake (w.alloc (.cells (laI a0 a1 a2 a3 a4 a5 a6 a7 a8 a9 a10 a11) 24))).mono ?_; rintro e w1 ⟨rfl, hb1⟩)
      | (go_at_call 4; refine (rollAwake w1).mono ?_; rintro e w2 ⟨rfl, hb2⟩)
    go_ret
    exact ⟨rfl, bt (bt hB hb1) hb2⟩
  · have i0 : ¬ (200 : Int) < (n : Int) := by omega
    have i1 : (200 : Int) < (m : Int) := by omega
    have i2 : decide (200 < n) = false := decide_eq_false (by omega)
    have i3 : decide (200 < m) = true := decide_eq_true hs
    go_enter Try.func3, Try.ntmps3
    go_wp2_with first
      | (go_at_call 4; refine (rollAwake (w.alloc (.cells (laI a0 a1 a2 a3 a4 a5 a6 a7 a8 a9 a10 a11) 24))).mono ?_; rintro e w1 ⟨rfl, hb1⟩)
      | (go_at_call 4; refine (rollAwake w1).mono ?_; rintro e w2 ⟨rfl, hb2⟩)
    go_ret
    exact ⟨rfl, bt (bt hB hb1) hb2⟩

set_option maxRecDepth 100000 in
set_option maxHeartbeats 8000000 in
theorem lawRollGood_any (A A2 : Option Addr) (n c m d : Nat) (lc : List Cl) (a0 a1 a2 a3 a4 a5 a6 a7 a8 a9 a10 a11 : Int) (ll : List Ln) (w : World) (hn : lc.length = n) (hr : RdX 4 w.heap.size w A (lc.map Cl.cells)) (hf : ∀ x, x ∈ lc → x.fits) (hn2 : ll.length = m) (hr2 : RdX 11 w.heap.size w A2 (ll.map Ln.cells)) (hf2 : ∀ x, x ∈ ll → x.fits) :
    Calls Try.prog 3 #[.slice A n c, .agg (laI a0 a1 a2 a3 a4 a5 a6 a7 a8 a9 a10 a11), .slice A2 m d] w fun e w' => e = .returned (.bool true) ∧ Below w.heap.size w w' := by
  by_cases hs : 200 < n
  · exact lawRollGood_many A A2 n c m d a0 a1 a2 a3 a4 a5 a6 a7 a8 a9 a10 a11 w (.inl hs)
  by_cases hs2 : 200 < m
  · exact lawRollGood_many A A2 n c m d a0 a1 a2 a3 a4 a5 a6 a7 a8 a9 a10 a11 w (.inr ⟨by omega, hs2⟩)
  have i1 : ¬ (200 : Int) < (n : Int) := by omega
  have i2 : ¬ (200 : Int) < (m : Int) := by omega
  have i3 : decide (200 < n) = false := decide_eq_false hs
  have i4 : decide (200 < m) = false := decide_eq_false hs2
  have F1 := Lib.hid (fun W (h : Below w.heap.size w W) => goodCs_any A n c lc W hn ((hr.keep h (Nat.le_refl _)).more h.size) (by unfold maxLen; omega) hf)
  have F2 := Lib.hid (fun W (h : Below w.heap.size w W) => refGoodCs_any (B := w.heap.size) A n c lc W hn (hr.keep h (Nat.le_refl _)) h.size (by unfold maxLen; omega) hf)
  have F3 := Lib.hid (fun W => goodLa_any a0 a1 a2 a3 a4 a5 a6 a7 a8 a9 a10 a11 W)
  have F4 := Lib.hid (fun W => refGoodLa_any a0 a1 a2 a3 a4 a5 a6 a7 a8 a9 a10 a11 W)
  have F5 := Lib.hid (fun W (h : Below w.heap.size w W) => goodLs_any A2 m d ll W hn2 ((hr2.keep h (Nat.le_refl _)).more h.size) (by unfold maxLen; omega) hf2)
  have F6 := Lib.hid (fun W (h : Below w.heap.size w W) => lines_any (B := w.heap.size) A2 m d ll W hn2 (hr2.keep h (Nat.le_refl _)) h.size (by omega))
  have F7 := Lib.hid (fun W A9 c9 (h : RdX 11 W.heap.size W A9 (ll.map Ln.cells)) => refGoodLs_any (B := W.heap.size) A9 m c9 ll W hn2 h (Nat.le_refl _) (by unfold maxLen; omega) hf2)
  generalize goodCls lc = g1 at F1 F2
  generalize goodLa (laL a0 a1 a2 a3 a4 a5 a6 a7 a8 a9 a10 a11) = g2 at F3 F4
  generalize goodLns ll = g3 at F5 F7
  clear hr hr2 hf hf2 hn hn2
  have hX := blk_new w (laI a0 a1 a2 a3 a4 a5 a6 a7 a8 a9 a10 a11) 24
  have hB := b0 w (.cells (laI a0 a1 a2 a3 a4 a5 a6 a7 a8 a9 a10 a11) 24)
  go_enter Try.func3, Try.ntmps3
  go_upto_region 1 with fail
  generalize w.alloc (.cells (laI a0 a1 a2 a3 a4 a5 a6 a7 a8 a9 a10 a11) 24) = W at hX hB ⊢
  generalize hbb : w.heap.size = b at hX hB F1 F2 F5 F6 ⊢
  go_upto_region 3 with (go_at_call 4; refine (rollAwake W).mono ?_; rintro e w1 ⟨rfl, hb1⟩)
  have hX1 := hX.keep hb1
  have hB1 := hB.trans (hb1.mono (Nat.le_of_lt hX.lt))
  clear hX hB hb1
  have hu12 := Try.underlying24
  have hz12 : (Try.prog.info? 24).map (·.size) = some ([Value.int .i64 a0, Value.int .i64 a1, Value.int .i64 a2, Value.int .i64 a3, Value.int .i64 a4, Value.int .i64 a5, Value.int .i64 a6, Value.int .i64 a7, Value.int .i64 a8, Value.int .i64 a9, Value.int .i64 a10, Value.int .i64 a11] : List Value).length := by kernel_rfl
  refine wp_region_held_drew (S := (fun w' => w'.rangeAt b 0 [.int .i64 a0, .int .i64 a1, .int .i64 a2, .int .i64 a3, .int .i64 a4, .int .i64 a5, .int .i64 a6, .int .i64 a7, .int .i64 a8, .int .i64 a9, .int .i64 a10, .int .i64 a11] ∧ Blk w' b (laI a0 a1 a2 a3 a4 a5 a6 a7 a8 a9 a10 a11) 24 ∧ Below b w w')) (by kernel_rfl) ?_ (fun hHeld => ?_)
  · first | exact sb12_0 hX1 hB1 | exact sb12_1 hHeld (by assumption)
  refine wpAnyH_take (i := 0) (oi := ⟨some 20, _, _, _, _, _⟩) (v := ?_) (by rfl) (by kernel_rfl) (by kernel_rfl) (by kernel_rfl) (fun _ _ _ h => h) (Or.inl ⟨by rfl, ?hy⟩) (by assumption) ?_
  case hy => (intro w hSw; (try dsimp only at hSw); go_simp; try with_reducible rfl)
  try simp only [Act.put, List.setIfInBounds_toArray, List.set_cons_zero, List.set_cons_succ]
  refine wpAnyH_take (i := 2) (oi := ⟨some 22, _, _, _, _, _⟩) (v := ?_) (by rfl) (by kernel_rfl) (by kernel_rfl) (by kernel_rfl) (fun _ _ _ h => h) (Or.inl ⟨by rfl, ?hy⟩) (by assumption) ?_
  case hy => (intro w hSw; (try dsimp only at hSw); go_simp; try with_reducible rfl)
  try simp only [Act.put, List.setIfInBounds_toArray, List.set_cons_zero, List.set_cons_succ]
  refine wpAnyH_ready (rs := [1]) (by kernel_rfl) (by simp) ?_
  refine AllReadyH.cons (o := ⟨some 21, _, _, _, _, _⟩) (by rfl) (fun K hK => ?_) ?_
  · (go_simp; (go_at_call 5; ((with_reducible refine (F1.out _ (sb12_b hHeld)).mono ?_); rintro e w2 ⟨rfl, hb2⟩)); go_wp2_with fail)
    refine hK.out _ _ ?_ (fun hHeld => ?_)
    · first | exact sb12_0 hX1 hB1 | exact sb12_1 hHeld (by assumption)
    clear hK K
    try simp only [Act.put, List.setIfInBounds_toArray, List.set_cons_zero, List.set_cons_succ]
    refine wpAnyH_ready (rs := [3]) (by kernel_rfl) (by simp) ?_
    refine AllReadyH.cons (o := ⟨some 23, _, _, _, _, _⟩) (by rfl) (fun K hK => ?_) ?_
    · (go_simp; (go_at_call 6; ((with_reducible refine (F2.out _ (sb12_b hHeld)).mono ?_); rintro e w3 ⟨rfl, hb3⟩)); go_wp2_with fail)
      refine hK.out _ _ ?_ (fun hHeld => ?_)
      · first | exact sb12_0 hX1 hB1 | exact sb12_1 hHeld (by assumption)
      clear hK K
      try simp only [Act.put, List.setIfInBounds_toArray, List.set_cons_zero, List.set_cons_succ]
      refine wpAnyH_take (i := 4) (oi := ⟨some 24, _, _, _, _, _⟩) (v := ?_) (by rfl) (by kernel_rfl) (by kernel_rfl) (by kernel_rfl) (fun _ _ _ h => h) (Or.inl ⟨by rfl, ?hy⟩) (by assumption) ?_
      case hy => (intro w hSw; (try dsimp only at hSw); go_simp; try with_reducible rfl)
      try simp only [Act.put, List.setIfInBounds_toArray, List.set_cons_zero, List.set_cons_succ]
      refine wpAnyH_take (i := 5) (oi := ⟨some 25, _, _, _, _, _⟩) (v := ?_) (by rfl) (by kernel_rfl) (by kernel_rfl) (by kernel_rfl) (fun _ _ _ h => h) (Or.inl ⟨by rfl, ?hy⟩) (by assumption) ?_
      case hy => (intro w hSw; (try dsimp only at hSw); go_simp; try with_reducible rfl)
      try simp only [Act.put, List.setIfInBounds_toArray, List.set_cons_zero, List.set_cons_succ]
      refine wpAnyH_take (i := 6) (oi := ⟨some 26, _, _, _, _, _⟩) (v := _) (by rfl) (by kernel_rfl) (by kernel_rfl) (by kernel_rfl) (fun _ _ _ h => h) (yieldsIf_load_mid (by rfl) _ _ rfl _ _ rfl _ _ (fun w hSw => hSw.1) hu12 rfl hz12) (by assumption) ?_
      try simp only [Act.put, List.setIfInBounds_toArray, List.set_cons_zero, List.set_cons_succ]
      refine wpAnyH_take (i := 8) (oi := ⟨some 28, _, _, _, _, _⟩) (v := _) (by rfl) (by kernel_rfl) (by kernel_rfl) (by kernel_rfl) (fun _ _ _ h => h) (yieldsIf_load_mid (by rfl) _ _ rfl _ _ rfl _ _ (fun w hSw => hSw.1) hu12 rfl hz12) (by assumption) ?_
      try simp only [Act.put, List.setIfInBounds_toArray, List.set_cons_zero, List.set_cons_succ]
      refine wpAnyH_ready (rs := [7]) (by kernel_rfl) (by simp) ?_
      refine AllReadyH.cons (o := ⟨some 27, _, _, _, _, _⟩) (by rfl) (fun K hK => ?_) ?_
      · (go_simp; (go_at_call 7; ((with_reducible refine (F3.out _).mono ?_); rintro e w4 ⟨rfl, hb4⟩)); go_wp2_with fail)
        refine hK.out _ _ ?_ (fun hHeld => ?_)
        · first | exact sb12_0 hX1 hB1 | exact sb12_1 hHeld (by assumption)
        clear hK K
        try simp only [Act.put, List.setIfInBounds_toArray, List.set_cons_zero, List.set_cons_succ]
        refine wpAnyH_ready (rs := [9]) (by kernel_rfl) (by simp) ?_
        refine AllReadyH.cons (o := ⟨some 29, _, _, _, _, _⟩) (by rfl) (fun K hK => ?_) ?_
        · (go_simp; (go_at_call 8; ((with_reducible refine (F4.out _).mono ?_); rintro e w5 ⟨rfl, hb5⟩)); go_wp2_with fail)
          refine hK.out _ _ ?_ (fun hHeld => ?_)
          · first | exact sb12_0 hX1 hB1 | exact sb12_1 hHeld (by assumption)
          clear hK K
          try simp only [Act.put, List.setIfInBounds_toArray, List.set_cons_zero, List.set_cons_succ]
          refine wpAnyH_take (i := 10) (oi := ⟨some 30, _, _, _, _, _⟩) (v := ?_) (by rfl) (by kernel_rfl) (by kernel_rfl) (by kernel_rfl) (fun _ _ _ h => h) (Or.inl ⟨by rfl, ?hy⟩) (by assumption) ?_
          case hy => (intro w hSw; (try dsimp only at hSw); go_simp; try with_reducible rfl)
          try simp only [Act.put, List.setIfInBounds_toArray, List.set_cons_zero, List.set_cons_succ]
          refine wpAnyH_take (i := 11) (oi := ⟨some 31, _, _, _, _, _⟩) (v := ?_) (by rfl) (by kernel_rfl) (by kernel_rfl) (by kernel_rfl) (fun _ _ _ h => h) (Or.inl ⟨by rfl, ?hy⟩) (by assumption) ?_
          case hy => (intro w hSw; (try dsimp only at hSw); go_simp; try with_reducible rfl)
          try simp only [Act.put, List.setIfInBounds_toArray, List.set_cons_zero, List.set_cons_succ]
          refine wpAnyH_take (i := 12) (oi := ⟨some 32, _, _, _, _, _⟩) (v := ?_) (by rfl) (by kernel_rfl) (by kernel_rfl) (by kernel_rfl) (fun _ _ _ h => h) (Or.inl ⟨by rfl, ?hy⟩) (by assumption) ?_
          case hy => (intro w hSw; (try dsimp only at hSw); go_simp; try with_reducible rfl)
          try simp only [Act.put, List.setIfInBounds_toArray, List.set_cons_zero, List.set_cons_succ]
          refine wpAnyH_take (i := 13) (oi := ⟨some 33, _, _, _, _, _⟩) (v := ?_) (by rfl) (by kernel_rfl) (by kernel_rfl) (by kernel_rfl) (fun _ _ _ h => h) (Or.inl ⟨by rfl, ?hy⟩) (by assumption) ?_
          case hy => (intro w hSw; (try dsimp only at hSw); go_simp; try with_reducible rfl)
          try simp only [Act.put, List.setIfInBounds_toArray, List.set_cons_zero, List.set_cons_succ]
          refine wpAnyH_take (i := 15) (oi := ⟨some 35, _, _, _, _, _⟩) (v := ?_) (by rfl) (by kernel_rfl) (by kernel_rfl) (by kernel_rfl) (fun _ _ _ h => h) (Or.inl ⟨by rfl, ?hy⟩) (by assumption) ?_
          case hy => (intro w hSw; (try dsimp only at hSw); go_simp; try with_reducible rfl)
          try simp only [Act.put, List.setIfInBounds_toArray, List.set_cons_zero, List.set_cons_succ]
          refine wpAnyH_ready (rs := [14]) (by kernel_rfl) (by simp) ?_
          refine AllReadyH.cons (o := ⟨some 34, _, _, _, _, _⟩) (by rfl) (fun K hK => ?_) ?_
          · (go_simp; (go_at_call 9; ((with_reducible refine (F5.out _ (sb12_b hHeld)).mono ?_); rintro e w6 ⟨rfl, hb6⟩)); go_wp2_with fail)
            refine hK.out _ _ ?_ (fun hHeld => ?_)
            · first | exact sb12_0 hX1 hB1 | exact sb12_1 hHeld (by assumption)
            clear hK K
            try simp only [Act.put, List.setIfInBounds_toArray, List.set_cons_zero, List.set_cons_succ]
            refine wpAnyH_ready (rs := [16]) (by kernel_rfl) (by simp) ?_
            refine AllReadyH.cons (o := ⟨some 36, _, _, _, _, _⟩) (by rfl) (fun K hK => ?_) ?_
            · (go_simp; (go_at_call 11; ((with_reducible refine (F6.out _ (sb12_b hHeld)).mono ?_); rintro e w7 ⟨⟨A9, c9, rfl, hO9⟩, hb7⟩)); go_wp2_with fail)
              refine hK.out _ _ ?_ (fun hHeld => ?_)
              · first | exact sb12_0 hX1 hB1 | exact sb12_1 hHeld (by assumption)
              clear hK K
              try simp only [Act.put, List.setIfInBounds_toArray, List.set_cons_zero, List.set_cons_succ]
              refine wpAnyH_ready (rs := [17]) (by kernel_rfl) (by simp) ?_
              refine AllReadyH.cons (o := ⟨some 37, _, _, _, _, _⟩) (by rfl) (fun K hK => ?_) ?_
              · (go_simp; (go_at_call 10; ((with_reducible refine (F7.out _ A9 c9 hO9.rd).mono ?_); rintro e w8 ⟨rfl, hb8⟩)); go_wp2_with fail)
                refine hK.out _ _ ?_ (fun hHeld => ?_)
                · first | exact sb12_0 hX1 hB1 | exact sb12_1 hHeld (by assumption)
                clear hK K
                try simp only [Act.put, List.setIfInBounds_toArray, List.set_cons_zero, List.set_cons_succ]
                refine wpAnyH_take (i := 18) (oi := ⟨some 38, _, _, _, _, _⟩) (v := ?_) (by rfl) (by kernel_rfl) (by kernel_rfl) (by kernel_rfl) (fun _ _ _ h => h) (Or.inl ⟨by rfl, ?hy⟩) (by assumption) ?_
                case hy => (intro w hSw; (try dsimp only at hSw); go_simp; try with_reducible rfl)
                try simp only [Act.put, List.setIfInBounds_toArray, List.set_cons_zero, List.set_cons_succ]
                refine wpAnyH_take (i := 19) (oi := ⟨some 39, _, _, _, _, _⟩) (v := ?_) (by rfl) (by kernel_rfl) (by kernel_rfl) (by kernel_rfl) (fun _ _ _ h => h) (Or.inl ⟨by rfl, ?hy⟩) (by assumption) ?_
                case hy => (intro w hSw; (try dsimp only at hSw); go_simp; try with_reducible rfl)
                try simp only [Act.put, List.setIfInBounds_toArray, List.set_cons_zero, List.set_cons_succ]
                refine wpAnyH_take (i := 20) (oi := ⟨some 6, _, _, _, _, _⟩) (v := ?_) (by rfl) (by kernel_rfl) (by kernel_rfl) (by kernel_rfl) (fun _ _ _ h => h) (Or.inl ⟨by rfl, ?hy⟩) (by assumption) ?_
                case hy => (intro w hSw; (try dsimp only at hSw); go_simp; try with_reducible rfl)
                try simp only [Act.put, List.setIfInBounds_toArray, List.set_cons_zero, List.set_cons_succ]
                refine wpAnyH_done (by kernel_rfl) ?_ _
                have hfin := sb12_b hHeld
                go_wp2_with fail
                go_ret
                exact ⟨rfl, by rw [hbb]; exact hfin⟩
              exact AllReadyH.nil
            exact AllReadyH.nil
          exact AllReadyH.nil
        exact AllReadyH.nil
      exact AllReadyH.nil
    exact AllReadyH.nil
  exact AllReadyH.nil
theorem rollGood_all (A : Option Addr) (n c : Nat) (lc : List Cl) (a0 a1 a2 a3 a4 a5 a6 a7 a8 a9 a10 a11 : Int) (A2 : Option Addr) (m d : Nat) (ll : List Ln) (w : World) (hn : lc.length = n) (hr : RdX 4 w.heap.size w A (lc.map Cl.cells)) (_hm : n ≤ maxLen) (hf : ∀ x, x ∈ lc → x.fits) (hn2 : ll.length = m) (hr2 : RdX 11 w.heap.size w A2 (ll.map Ln.cells)) (_hm2 : m ≤ maxLen) (hf2 : ∀ x, x ∈ ll → x.fits) :
    Calls Try.prog 3 #[.slice A n c, .agg (laI a0 a1 a2 a3 a4 a5 a6 a7 a8 a9 a10 a11), .slice A2 m d] w fun e w' => e = .returned (.bool true) ∧ Below w.heap.size w w' :=
  lawRollGood_any A A2 n c m d lc a0 a1 a2 a3 a4 a5 a6 a7 a8 a9 a10 a11 ll w hn hr hf hn2 hr2 hf2
end Go.Proofs.Ytnlnbgcmmlpniaa
