/-
  WHAT IS PROVED: spinneyref04.Made makes the reach of any prefixes (MadeTo, IsMade), for slices of at most 1000 strings. Conditions: those typed in the theorem.
-/
import Derived.Test.YtokkmofcijfmiaaReachRef2
import Derived.Test.YtokkmofcijfmiaaGQ5
import Derived.Deep.RegionHeld3
import Derived.Deep.DrawnRows
namespace Go.Proofs.Ytokkmofcijfmiaa
open Go.RowKit
attribute [local go_sem ↓] Go.wp_at_zero Go.wp_at_succ

/-- Is place i's text alone, as far as the first m tell? -/
def loneTo (l : List (List UInt8)) (i m : Nat) : Bool := (List.range m).all fun k => !(begB (atR l k) (atR l i) && (atR l k != atR l i || decide (k < i)))
theorem loneTo_zero (l : List (List UInt8)) (i : Nat) : loneTo l i 0 = true := rfl
theorem loneTo_all {l : List (List UInt8)} {i m : Nat} (h : m = l.length) : loneTo l i m = loneB l i := by subst h; rfl
theorem loneTo_succ (l : List (List UInt8)) (i m : Nat) : loneTo l i (m + 1) = (loneTo l i m && !(begB (atR l m) (atR l i) && (atR l m != atR l i || decide (m < i)))) := by
  unfold loneTo
  rw [List.range_succ, List.all_append]
  simp
theorem loneTo_no {l : List (List UInt8)} {i m : Nat} (h : begB (atR l m) (atR l i) = true) (h2 : atR l m ≠ atR l i ∨ m < i) : loneTo l i (m + 1) = false := by
  rw [loneTo_succ, h]
  rcases h2 with e | e
  · have : (atR l m != atR l i) = true := by rw [bne_iff_ne]; exact e
    rw [this]
    simp
  · rw [decide_eq_true e]
    simp
theorem loneTo_yes {l : List (List UInt8)} {i m : Nat} (h : begB (atR l m) (atR l i) = false ∨ (atR l m = atR l i ∧ ¬ m < i)) : loneTo l i (m + 1) = loneTo l i m := by
  rw [loneTo_succ]
  rcases h with e | ⟨e, e2⟩
  · rw [e]; simp
  · rw [e, decide_eq_false e2]
    simp

theorem sKeep0 {W : World} {p : Addr} {v : Value} (h : W.cell? p = some v) : W.drew.cell? p = some v ∧ Below W.heap.size W W.drew := ⟨h, (Below.refl _ _).drew⟩
theorem sKeepA {H : Nat} {W w' : World} {p : Addr} {v : Value} (h : w'.cell? p = some v ∧ Below H W w') (hl : p.block < H) (hH : H ≤ W.heap.size) (o : Obj) : (w'.alloc o).cell? p = some v ∧ Below H W (w'.alloc o) := by
  have hz := h.2.size
  exact ⟨((b0 w' o).cell (by omega)).trans h.1, h.2.alloc (by omega) o⟩
theorem sKeepB {H : Nat} {W w' w1 : World} {p : Addr} {v : Value} (h : w'.cell? p = some v ∧ Below H W w') (hl : p.block < H) (hb : Below H w' w1) : w1.cell? p = some v ∧ Below H W w1 :=
  ⟨(hb.cell hl).trans h.1, h.2.trans hb⟩
theorem lastB {H H0 : Nat} {w W w' : World} {p : Addr} {v : Value} (h : Below H0 w W) (hS : w'.cell? p = some v ∧ Below H W w') (hH : H0 ≤ H) : Below H0 w w' := h.trans (hS.2.mono hH)
/-- What Made answers. -/
def MadeP (w : World) (l : List ByteArray) (e : Ending) (w' : World) : Prop :=
  (∃ (A' : Option Addr) (n' c' : Nat) (r : List ByteArray), e = .returned (.slice A' n' c') ∧ OwnS w.heap.size w' A' n' c' r ∧ MadeTo (dL l) l.length (dL r) ∧ (∀ x, x ∈ r → x ∈ l)) ∧ Below w.heap.size w w'

set_option maxRecDepth 100000 in
set_option maxHeartbeats 8000000 in
theorem refMade_any {B : Nat} (A : Option Addr) (n c : Nat) (l : List ByteArray) (w : World) (hn : l.length = n) (hr : RdS B w A l) (hB : B ≤ w.heap.size) (hm : n ≤ 1000) (hs : ∀ x, x ∈ l → x.size ≤ maxLen) :
    Calls Try.prog 11 #[.slice A n c] w fun e w' => MadeP w l e w' := by
  obtain ⟨i0, hi0, hz0, hz1, hz2⟩ := info_parts str_info
  have HN := Lib.hid hn
  have HS := Lib.hid hs
  clear hn hs
  go_enter Try.func11, Try.ntmps11
  go_wp2_with fail
  go_loopw [3, 10] (fun out i wr => ∃ (k : Nat) (A3 : Option Addr) (n3 c3 : Nat) (r : List ByteArray), k ≤ n ∧ i = .int .i64 k ∧ out = .slice A3 n3 c3 ∧ n3 ≤ k ∧ OwnS w.heap.size wr A3 n3 c3 r ∧ Hid (MadeTo (dL l) k (dL r)) ∧ Hid (∀ x, x ∈ r → x ∈ l) ∧ Below w.heap.size w wr) (fun _ i _ => n - (intOf i).toNat)
  case atStart => exact ⟨0, none, 0, 0, [], Nat.zero_le _, rfl, rfl, Nat.le_refl _, OwnS.nil _ _, madeTo_zero _, fun x hx => absurd hx (by simp), Below.refl _ _⟩
  case round =>
    obtain ⟨k, A3, n3, c3, r, hk, rfl, rfl, hn3, hO, hM, hI, hBw⟩ := hrel
    by_cases hlt : k < n
    · obtain ⟨x, hx⟩ := get_ex (show k < l.length by have := HN.out; omega)
      have i1 : (0 : Int) ≤ (k : Int) := by omega
      have i2 : (k : Int) < (n : Int) := by omega
      have hxs := HS.out x (List.mem_of_getElem? hx)
      have HX := Lib.hid hx
      obtain ⟨ad, rfl, hadB, _⟩ := hr k x hx
      clear hx
      go_wp2_with fail
      go_loopw [5, 15] (fun u t wr2 => ∃ (j : Nat) (b : Bool), j ≤ n ∧ t = .int .i64 j ∧ u = .bool b ∧ Hid (b = loneTo (dL l) k j) ∧ Drn wr wr2) (fun _ t _ => n - (intOf t).toNat)
      case atStart => exact ⟨0, true, Nat.zero_le _, rfl, rfl, rfl, Drn.refl _⟩
      case round =>
        obtain ⟨j, b, hj, rfl, rfl, hL, hD⟩ := hrel
        have hr2 := (hr.keep hBw hB).keep (hD.below B) (Nat.le_refl _)
        have hcx := hr2.cells HX.out
        by_cases hjl : j < n
        · obtain ⟨y, hy⟩ := get_ex (show j < l.length by have := HN.out; omega)
          have hcy := hr2.cells hy
          have HY := Lib.hid hy
          clear hy
          have j1 : (0 : Int) ≤ (j : Int) := by omega
          have j2 : (j : Int) < (n : Int) := by omega
          have ey := dL_at HY.out
          have ex := dL_at HX.out
          by_cases hb : begB y.data.toList x.data.toList = true
          · have HB := Lib.hid hb
            by_cases hxy : y.data.toList = x.data.toList
            · have e0 : (y.toList == x.toList) = true := by rw [str_eqB, hxy]; simp
              by_cases hjk : j < k
              · have hL2 : Hid (false = loneTo (dL l) k (j + 1)) := (loneTo_no (by rw [ex, ey]; exact hb) (Or.inr hjk)).symm
                have jk2 : (j : Int) < (k : Int) := by omega
                clear hb hxy ex ey
                go_wp2_with fail
                go_quiet ((go_at_call 41; exact Calls.quiet_of_same ((begins_is _ _ true HB.out _).mono fun _ _ h => ⟨h.1, h.2.symm⟩)))
                go_wp2_with fail
                go_roundw
                case rel => exact ⟨j + 1, false, by omega, by go_num, rfl, hL2, hD.draws _⟩
                case measure => simp [intOf]; omega
              · have hL2 : Hid (b = loneTo (dL l) k (j + 1)) := hL.out.trans (loneTo_yes (Or.inr ⟨by rw [ex, ey, hxy], hjk⟩)).symm
                have jk2 : decide (j < k) = false := by simpa using hjk
                clear hb hxy ex ey
                go_wp2_with fail
                go_quiet ((go_at_call 41; exact Calls.quiet_of_same ((begins_is _ _ true HB.out _).mono fun _ _ h => ⟨h.1, h.2.symm⟩)))
                go_wp2_with fail
                go_roundw
                case rel => exact ⟨j + 1, b, by omega, by go_num, rfl, hL2, hD.draws _⟩
                case measure => simp [intOf]; omega
            · have e0 : (y.toList == x.toList) = false := by rw [str_eqB]; simpa using hxy
              have hL2 : Hid (false = loneTo (dL l) k (j + 1)) := (loneTo_no (by rw [ex, ey]; exact hb) (Or.inl (by rw [ex, ey]; exact hxy))).symm
              clear hb hxy ex ey
              go_wp2_with fail
              go_quiet ((go_at_call 41; exact Calls.quiet_of_same ((begins_is _ _ true HB.out _).mono fun _ _ h => ⟨h.1, h.2.symm⟩)))
              go_wp2_with fail
              go_roundw
              case rel => exact ⟨j + 1, false, by omega, by go_num, rfl, hL2, hD.draws _⟩
              case measure => simp [intOf]; omega
          · have HB := Lib.hid (Bool.eq_false_iff.2 hb)
            have hL2 : Hid (b = loneTo (dL l) k (j + 1)) := hL.out.trans (loneTo_yes (Or.inl (by rw [ex, ey]; exact HB.out))).symm
            clear hb ex ey
            go_wp2_with fail
            go_quiet ((go_at_call 41; exact Calls.quiet_of_same ((begins_is _ _ false HB.out _).mono fun _ _ h => ⟨h.1, h.2.symm⟩)))
            go_wp2_with fail
            go_roundw
            case rel => exact ⟨j + 1, b, by omega, by go_num, rfl, hL2, hD.draws _⟩
            case measure => simp [intOf]; omega
        · have hq : ¬ (j : Int) < (n : Int) := by omega
          have hL2 : Hid (b = loneB (dL l) k) := hL.out.trans (loneTo_all (by rw [dL_len, HN.out]; omega))
          have hO2 := hO.keep (hD.below _)
          have hB2 := bt hBw (hD.below _)
          clear hL
          cases b with
          | false =>
            have hM2 : Hid (MadeTo (dL l) (k + 1) (dL r)) := madeTo_skip hM.out hL2.out.symm
            go_wp2_with fail
            go_roundw
            case rel => exact ⟨k + 1, A3, n3, c3, r, by omega, by go_num, rfl, by omega, hO2, hM2, hI, hB2⟩
            case measure => simp [intOf]; omega
          | true =>
            clear hO hD
            go_wp2_with fail
            go_loopw [7] (fun t wr3 => ∃ q : Nat, q ≤ n3 ∧ t = .int .i64 q ∧ Hid (∀ j, j < q → ltB (atR (dL r) j) x.data.toList = true) ∧ Drn wr wr3) (fun t _ => n3 - (intOf t).toNat)
            case atStart => exact ⟨0, Nat.zero_le _, rfl, fun j hj => by omega, Drn.refl _⟩
            case round =>
              obtain ⟨q, hqn, rfl, hLo, hD3⟩ := hrel
              have hO3 := hO2.keep (hD3.below _)
              have hB3 := bt hB2 (hD3.below _)
              have hr3 := hr.keep hB3 hB
              have hcx3 := hr3.cells HX.out
              have q1 : (0 : Int) ≤ (q : Int) := by omega
              by_cases hq3 : q < n3
              · obtain ⟨z, hz⟩ := get_ex (show q < r.length by have := hO3.len; omega)
                obtain ⟨ad3, rfl, _, hcz⟩ := hO3.rd q z hz
                have q2 : (q : Int) < (n3 : Int) := by omega
                have HZ := Lib.hid hz
                have hzs := HS.out z (hI.out z (List.mem_of_getElem? hz))
                clear hz
                rcases ltB_val (a := z.data.toList) (b := x.data.toList) with ⟨h1, h2⟩ | ⟨h1, h2⟩ | ⟨h1, h2⟩
                · have HV := Lib.hid h2
                  have hLo2 : Hid (∀ j, j < q + 1 → ltB (atR (dL r) j) x.data.toList = true) := fun j hj => by
                    by_cases e : j = q
                    · subst e
                      rw [dL_at HZ.out]
                      exact h1
                    · exact hLo.out j (by omega)
                  clear h1 h2
                  go_wp2_with fail
                  go_quiet ((go_at_call 40; exact Calls.quiet_of (texts_is _ _ _ HV.out hzs hxs _)))
                  go_wp2_with fail
                  go_roundw
                  case rel => exact ⟨q + 1, by omega, by go_num, hLo2, hD3.draws _⟩
                  case measure => simp [intOf]; omega
                · have HV := Lib.hid h2
                  have hHi : Hid (q < n3 → ltB (atR (dL r) q) x.data.toList = false) := fun _ => by rw [dL_at HZ.out]; exact h1
                  clear h1 h2
                  go_wp2_with fail
                  go_quiet ((go_at_call 40; exact Calls.quiet_of (texts_is _ _ _ HV.out hzs hxs _)))
                  go_wp2_with fail
                  have q3 : (q : Int) ≤ (n3 : Int) := by omega
                  have q4 : (n3 : Int) ≤ (c3 : Int) := by have := hO3.cap; omega
                  have q5 : (q : Int) ≤ (c3 : Int) := by omega
                  have hO4 := hO3.draws nq
                  have hB4 := bdn hB3 nq
                  have hr4 := hr3.draws nq
                  have hcx4 : (wr.drewN nq).cell? (ad.add k) = some (.string x) := hcx3
                  have hlt4 : (ad.add k).block < (wr.drewN nq).heap.size := by have := hB4.size; rw [add_block]; omega
                  clear hO3 hB3 hr3 hcx3 hD3
                  generalize wr.drewN nq = W at hO4 hB4 hr4 hcx4 hlt4 ⊢
                  have HT : Hid ((r.take q).length = q) := by
                    have := hO4.len
                    show _ = _
                    rw [List.length_take]
                    omega
                  have HD : Hid ((r.drop q).length = n3 - q) := by
                    have := hO4.len
                    show _ = _
                    rw [List.length_drop]
                    omega
                  have HC := Lib.hid (show r.length ≤ c3 by have := hO4.cap; have := hO4.len; omega)
                  have hw1 : OwnS W.heap.size (W.alloc (.cells #[] 9)).drew (some ⟨W.heap.size, 0, none⟩) 0 0 [] := OwnS.lit W #[] [] rfl rfl (Nat.le_refl _) (Nat.zero_le _)
                  have hw2 : OwnS W.heap.size ((W.alloc (.cells #[] 9)).alloc (.cells #[.string x] 9)).drew (some ⟨W.heap.size, 0, none⟩) 0 0 [] := ((OwnS.lit W #[] [] rfl rfl (Nat.le_refl _) (Nat.zero_le _)).keep (b0 (W.alloc (.cells #[] 9)) (.cells #[.string x] 9))).drew_
                  have hw3 : OwnS W.heap.size ((W.alloc (.cells #[.string x] 9)).alloc (.cells #[] 9)).drew (some ⟨W.heap.size + 1, 0, none⟩) 0 0 [] := by
                    have h := OwnS.lit (W.alloc (.cells #[.string x] 9)) (base := W.heap.size) (n := 0) #[] [] rfl rfl (by simp) (Nat.zero_le _)
                    have e : (W.alloc (.cells #[.string x] 9)).heap.size = W.heap.size + 1 := by simp
                    rw [e] at h
                    exact h
                  have hx2 : RdS (W.heap.size + 2) ((W.alloc (.cells #[] 9)).alloc (.cells #[.string x] 9)).drew (some ⟨W.heap.size + 1, 0, none⟩) [x] := rdOne (W.alloc (.cells #[] 9)) x (W.heap.size + 1) (by simp)
                  have hx3 : RdS (W.heap.size + 1) ((W.alloc (.cells #[.string x] 9)).alloc (.cells #[] 9)).drew (some ⟨W.heap.size, 0, none⟩) [x] := ((rdOne W x W.heap.size rfl).keep (b0 (W.alloc (.cells #[.string x] 9)) (.cells #[] 9)) (by simp)).drew_
                  have HX2 : ∀ w5, World.grownBy ((W.alloc (.cells #[] 9)).alloc (.cells #[.string x] 9)).drew w5 (some W.heap.size) → RdS (W.heap.size + 2) w5 (some ⟨W.heap.size + 1, 0, none⟩) [x] := fun w5 hg => hx2.grown hg (by simp) (fun a e => by injection e with e; subst e; simp)
                  have HX3 : ∀ w5, World.grownBy ((W.alloc (.cells #[.string x] 9)).alloc (.cells #[] 9)).drew w5 (some (W.heap.size + 1)) → RdS (W.heap.size + 1) w5 (some ⟨W.heap.size, 0, none⟩) [x] := fun w5 hg => hx3.grown hg (by simp) (fun a e => by injection e with e; subst e; simp)
                  have Hw1 := Lib.hid hw1
                  have Hw2 := Lib.hid hw2
                  have Hw3 := Lib.hid hw3
                  have HX2 := Lib.hid HX2
                  have HX3 := Lib.hid HX3
                  clear hw1 hw2 hw3 hx2 hx3
                  have HM : Hid (MadeTo (dL l) (k + 1) (dL ([] ++ r.take q ++ [x] ++ r.drop q))) := by
                    have hlen := hO4.len
                    have e := dL_at HX.out
                    have h := madeTo_put hM.out (show k < (dL l).length by rw [dL_len, HN.out]; exact hlt) hL2.out.symm (show q ≤ (dL r).length by rw [dL_len]; omega) (fun j hj => by rw [e]; exact hLo.out j hj) (fun hj => by rw [e]; exact hHi.out (by rw [dL_len] at hj; omega))
                    rw [e] at h
                    show MadeTo _ _ _
                    simpa using h
                  have HI : Hid (∀ y, y ∈ [] ++ r.take q ++ [x] ++ r.drop q → y ∈ l) := fun y hy => by
                    simp only [List.nil_append, List.mem_append, List.mem_singleton] at hy
                    rcases hy with (hy | hy) | hy
                    · exact hI.out y (List.mem_of_mem_take hy)
                    · rw [hy]; exact List.mem_of_getElem? HX.out
                    · exact hI.out y (List.mem_of_mem_drop hy)
                  go_region_held3 (fun w' => w'.cell? (ad.add k) = some (.string x) ∧ Below W.heap.size W w')
                    (first | exact sKeep0 hcx4 | exact sKeepA (by assumption) hlt4 (Nat.le_refl _) _ | exact sKeepB (by assumption) hlt4 (by assumption))
                    (first
                      | (refine step_apS (o := ⟨some 68, _, _, _, _, _⟩) (base := W.heap.size) (n := 0) (m := q) (l := []) (l2 := r.take q) (by rfl) _ _ (by rfl) Try.underlying25 Try.underlying25 hi0 hz0 hz1 hz2 (by rfl) (by rfl) Hw1.out (rdNow (hO4.rd.take q) (by assumption)) HT.out q (by omega) (by omega) (szNow (by assumption)) ?_; intro A5 c5 w5 hO5 hb5 hg5)
                      | (refine step_apS (o := ⟨some 68, _, _, _, _, _⟩) (base := W.heap.size) (n := 0) (m := q) (l := []) (l2 := r.take q) (by rfl) _ _ (by rfl) Try.underlying25 Try.underlying25 hi0 hz0 hz1 hz2 (by rfl) (by rfl) Hw2.out (rdNow (hO4.rd.take q) (by assumption)) HT.out q (by omega) (by omega) (szNow (by assumption)) ?_; intro A5 c5 w5 hO5 hb5 hg5; have hx5 := HX2.out w5 hg5)
                      | (refine step_apS (o := ⟨some 68, _, _, _, _, _⟩) (base := W.heap.size) (n := 0) (m := q) (l := []) (l2 := r.take q) (by rfl) _ _ (by rfl) Try.underlying25 Try.underlying25 hi0 hz0 hz1 hz2 (by rfl) (by rfl) Hw3.out (rdNow (hO4.rd.take q) (by assumption)) HT.out q (by omega) (by omega) (szNow (by assumption)) ?_; intro A5 c5 w5 hO5 hb5 hg5; have hx5 := HX3.out w5 hg5)
                      | (refine step_apS (o := ⟨some 74, _, _, _, _, _⟩) (base := W.heap.size) (n := q) (m := 1) (l := [] ++ r.take q) (l2 := [x]) (by rfl) _ _ (by rfl) Try.underlying25 Try.underlying25 hi0 hz0 hz1 hz2 (by rfl) (by rfl) hO5 hx5 rfl (q + 1) (by omega) (by omega) (szNow (by assumption)) ?_; intro A6 c6 w6 hO6 hb6 hg6)
                      | (refine step_apS (o := ⟨some 74, _, _, _, _, _⟩) (base := W.heap.size) (n := q) (m := 1) (l := [] ++ r.take q) (l2 := [x]) (by rfl) _ _ (by rfl) Try.underlying25 Try.underlying25 hi0 hz0 hz1 hz2 (by rfl) (by rfl) (hO5.keep (b0 _ _)) (rdOne w5 x _ rfl) rfl (q + 1) (by omega) (by omega) (szNow (by assumption)) ?_; intro A6 c6 w6 hO6 hb6 hg6)
                      | (refine step_apS (o := ⟨some 78, _, _, _, _, _⟩) (base := W.heap.size) (n := q + 1) (m := n3 - q) (l := [] ++ r.take q ++ [x]) (l2 := r.drop q) (by rfl) _ _ (by rfl) Try.underlying25 Try.underlying25 hi0 hz0 hz1 hz2 (by rfl) (by rfl) hO6 (rdNow (hO4.rd.drop HC.out) (by assumption)) HD.out (n3 + 1) (by omega) (by omega) (szNow (by assumption)) ?_; intro A7 c7 w7 hO7 hb7 hg7))
                  all_goals
                    go_wp2_with fail
                    go_roundw
                    case rel => exact ⟨k + 1, A7, n3 + 1, c7, [] ++ r.take q ++ [x] ++ r.drop q, by omega, by go_num, rfl, by omega, hO7.less hB4.size, HM, HI, lastB hB4 (by assumption) hB4.size⟩
                    case measure => simp [intOf]; omega
                · have HV := Lib.hid h2
                  have hHi : Hid (q < n3 → ltB (atR (dL r) q) x.data.toList = false) := fun _ => by rw [dL_at HZ.out]; exact h1
                  clear h1 h2
                  go_wp2_with fail
                  go_quiet ((go_at_call 40; exact Calls.quiet_of (texts_is _ _ _ HV.out hzs hxs _)))
                  go_wp2_with fail
                  have q3 : (q : Int) ≤ (n3 : Int) := by omega
                  have q4 : (n3 : Int) ≤ (c3 : Int) := by have := hO3.cap; omega
                  have q5 : (q : Int) ≤ (c3 : Int) := by omega
                  have hO4 := hO3.draws nq
                  have hB4 := bdn hB3 nq
                  have hr4 := hr3.draws nq
                  have hcx4 : (wr.drewN nq).cell? (ad.add k) = some (.string x) := hcx3
                  have hlt4 : (ad.add k).block < (wr.drewN nq).heap.size := by have := hB4.size; rw [add_block]; omega
                  clear hO3 hB3 hr3 hcx3 hD3
                  generalize wr.drewN nq = W at hO4 hB4 hr4 hcx4 hlt4 ⊢
                  have HT : Hid ((r.take q).length = q) := by
                    have := hO4.len
                    show _ = _
                    rw [List.length_take]
                    omega
                  have HD : Hid ((r.drop q).length = n3 - q) := by
                    have := hO4.len
                    show _ = _
                    rw [List.length_drop]
                    omega
                  have HC := Lib.hid (show r.length ≤ c3 by have := hO4.cap; have := hO4.len; omega)
                  have hw1 : OwnS W.heap.size (W.alloc (.cells #[] 9)).drew (some ⟨W.heap.size, 0, none⟩) 0 0 [] := OwnS.lit W #[] [] rfl rfl (Nat.le_refl _) (Nat.zero_le _)
                  have hw2 : OwnS W.heap.size ((W.alloc (.cells #[] 9)).alloc (.cells #[.string x] 9)).drew (some ⟨W.heap.size, 0, none⟩) 0 0 [] := ((OwnS.lit W #[] [] rfl rfl (Nat.le_refl _) (Nat.zero_le _)).keep (b0 (W.alloc (.cells #[] 9)) (.cells #[.string x] 9))).drew_
                  have hw3 : OwnS W.heap.size ((W.alloc (.cells #[.string x] 9)).alloc (.cells #[] 9)).drew (some ⟨W.heap.size + 1, 0, none⟩) 0 0 [] := by
                    have h := OwnS.lit (W.alloc (.cells #[.string x] 9)) (base := W.heap.size) (n := 0) #[] [] rfl rfl (by simp) (Nat.zero_le _)
                    have e : (W.alloc (.cells #[.string x] 9)).heap.size = W.heap.size + 1 := by simp
                    rw [e] at h
                    exact h
                  have hx2 : RdS (W.heap.size + 2) ((W.alloc (.cells #[] 9)).alloc (.cells #[.string x] 9)).drew (some ⟨W.heap.size + 1, 0, none⟩) [x] := rdOne (W.alloc (.cells #[] 9)) x (W.heap.size + 1) (by simp)
                  have hx3 : RdS (W.heap.size + 1) ((W.alloc (.cells #[.string x] 9)).alloc (.cells #[] 9)).drew (some ⟨W.heap.size, 0, none⟩) [x] := ((rdOne W x W.heap.size rfl).keep (b0 (W.alloc (.cells #[.string x] 9)) (.cells #[] 9)) (by simp)).drew_
                  have HX2 : ∀ w5, World.grownBy ((W.alloc (.cells #[] 9)).alloc (.cells #[.string x] 9)).drew w5 (some W.heap.size) → RdS (W.heap.size + 2) w5 (some ⟨W.heap.size + 1, 0, none⟩) [x] := fun w5 hg => hx2.grown hg (by simp) (fun a e => by injection e with e; subst e; simp)
                  have HX3 : ∀ w5, World.grownBy ((W.alloc (.cells #[.string x] 9)).alloc (.cells #[] 9)).drew w5 (some (W.heap.size + 1)) → RdS (W.heap.size + 1) w5 (some ⟨W.heap.size, 0, none⟩) [x] := fun w5 hg => hx3.grown hg (by simp) (fun a e => by injection e with e; subst e; simp)
                  have Hw1 := Lib.hid hw1
                  have Hw2 := Lib.hid hw2
                  have Hw3 := Lib.hid hw3
                  have HX2 := Lib.hid HX2
                  have HX3 := Lib.hid HX3
                  clear hw1 hw2 hw3 hx2 hx3
                  have HM : Hid (MadeTo (dL l) (k + 1) (dL ([] ++ r.take q ++ [x] ++ r.drop q))) := by
                    have hlen := hO4.len
                    have e := dL_at HX.out
                    have h := madeTo_put hM.out (show k < (dL l).length by rw [dL_len, HN.out]; exact hlt) hL2.out.symm (show q ≤ (dL r).length by rw [dL_len]; omega) (fun j hj => by rw [e]; exact hLo.out j hj) (fun hj => by rw [e]; exact hHi.out (by rw [dL_len] at hj; omega))
                    rw [e] at h
                    show MadeTo _ _ _
                    simpa using h
                  have HI : Hid (∀ y, y ∈ [] ++ r.take q ++ [x] ++ r.drop q → y ∈ l) := fun y hy => by
                    simp only [List.nil_append, List.mem_append, List.mem_singleton] at hy
                    rcases hy with (hy | hy) | hy
                    · exact hI.out y (List.mem_of_mem_take hy)
                    · rw [hy]; exact List.mem_of_getElem? HX.out
                    · exact hI.out y (List.mem_of_mem_drop hy)
                  go_region_held3 (fun w' => w'.cell? (ad.add k) = some (.string x) ∧ Below W.heap.size W w')
                    (first | exact sKeep0 hcx4 | exact sKeepA (by assumption) hlt4 (Nat.le_refl _) _ | exact sKeepB (by assumption) hlt4 (by assumption))
                    (first
                      | (refine step_apS (o := ⟨some 68, _, _, _, _, _⟩) (base := W.heap.size) (n := 0) (m := q) (l := []) (l2 := r.take q) (by rfl) _ _ (by rfl) Try.underlying25 Try.underlying25 hi0 hz0 hz1 hz2 (by rfl) (by rfl) Hw1.out (rdNow (hO4.rd.take q) (by assumption)) HT.out q (by omega) (by omega) (szNow (by assumption)) ?_; intro A5 c5 w5 hO5 hb5 hg5)
                      | (refine step_apS (o := ⟨some 68, _, _, _, _, _⟩) (base := W.heap.size) (n := 0) (m := q) (l := []) (l2 := r.take q) (by rfl) _ _ (by rfl) Try.underlying25 Try.underlying25 hi0 hz0 hz1 hz2 (by rfl) (by rfl) Hw2.out (rdNow (hO4.rd.take q) (by assumption)) HT.out q (by omega) (by omega) (szNow (by assumption)) ?_; intro A5 c5 w5 hO5 hb5 hg5; have hx5 := HX2.out w5 hg5)
                      | (refine step_apS (o := ⟨some 68, _, _, _, _, _⟩) (base := W.heap.size) (n := 0) (m := q) (l := []) (l2 := r.take q) (by rfl) _ _ (by rfl) Try.underlying25 Try.underlying25 hi0 hz0 hz1 hz2 (by rfl) (by rfl) Hw3.out (rdNow (hO4.rd.take q) (by assumption)) HT.out q (by omega) (by omega) (szNow (by assumption)) ?_; intro A5 c5 w5 hO5 hb5 hg5; have hx5 := HX3.out w5 hg5)
                      | (refine step_apS (o := ⟨some 74, _, _, _, _, _⟩) (base := W.heap.size) (n := q) (m := 1) (l := [] ++ r.take q) (l2 := [x]) (by rfl) _ _ (by rfl) Try.underlying25 Try.underlying25 hi0 hz0 hz1 hz2 (by rfl) (by rfl) hO5 hx5 rfl (q + 1) (by omega) (by omega) (szNow (by assumption)) ?_; intro A6 c6 w6 hO6 hb6 hg6)
                      | (refine step_apS (o := ⟨some 74, _, _, _, _, _⟩) (base := W.heap.size) (n := q) (m := 1) (l := [] ++ r.take q) (l2 := [x]) (by rfl) _ _ (by rfl) Try.underlying25 Try.underlying25 hi0 hz0 hz1 hz2 (by rfl) (by rfl) (hO5.keep (b0 _ _)) (rdOne w5 x _ rfl) rfl (q + 1) (by omega) (by omega) (szNow (by assumption)) ?_; intro A6 c6 w6 hO6 hb6 hg6)
                      | (refine step_apS (o := ⟨some 78, _, _, _, _, _⟩) (base := W.heap.size) (n := q + 1) (m := n3 - q) (l := [] ++ r.take q ++ [x]) (l2 := r.drop q) (by rfl) _ _ (by rfl) Try.underlying25 Try.underlying25 hi0 hz0 hz1 hz2 (by rfl) (by rfl) hO6 (rdNow (hO4.rd.drop HC.out) (by assumption)) HD.out (n3 + 1) (by omega) (by omega) (szNow (by assumption)) ?_; intro A7 c7 w7 hO7 hb7 hg7))
                  all_goals
                    go_wp2_with fail
                    go_roundw
                    case rel => exact ⟨k + 1, A7, n3 + 1, c7, [] ++ r.take q ++ [x] ++ r.drop q, by omega, by go_num, rfl, by omega, hO7.less hB4.size, HM, HI, lastB hB4 (by assumption) hB4.size⟩
                    case measure => simp [intOf]; omega
              · have hHi : Hid (q < n3 → ltB (atR (dL r) q) x.data.toList = false) := fun h => absurd h hq3
                have g0 : ¬ (q : Int) < (n3 : Int) := by omega
                have g1 : decide (q < n3) = false := by simpa using hq3
                go_wp2_with fail
                go_quiet (fail)
                go_wp2_with fail
                have q3 : (q : Int) ≤ (n3 : Int) := by omega
                have q4 : (n3 : Int) ≤ (c3 : Int) := by have := hO3.cap; omega
                have q5 : (q : Int) ≤ (c3 : Int) := by omega
                have hO4 := hO3.draws nq
                have hB4 := bdn hB3 nq
                have hr4 := hr3.draws nq
                have hcx4 : (wr.drewN nq).cell? (ad.add k) = some (.string x) := hcx3
                have hlt4 : (ad.add k).block < (wr.drewN nq).heap.size := by have := hB4.size; rw [add_block]; omega
                clear hO3 hB3 hr3 hcx3 hD3
                generalize wr.drewN nq = W at hO4 hB4 hr4 hcx4 hlt4 ⊢
                have HT : Hid ((r.take q).length = q) := by
                  have := hO4.len
                  show _ = _
                  rw [List.length_take]
                  omega
                have HD : Hid ((r.drop q).length = n3 - q) := by
                  have := hO4.len
                  show _ = _
                  rw [List.length_drop]
                  omega
                have HC := Lib.hid (show r.length ≤ c3 by have := hO4.cap; have := hO4.len; omega)
                have hw1 : OwnS W.heap.size (W.alloc (.cells #[] 9)).drew (some ⟨W.heap.size, 0, none⟩) 0 0 [] := OwnS.lit W #[] [] rfl rfl (Nat.le_refl _) (Nat.zero_le _)
                have hw2 : OwnS W.heap.size ((W.alloc (.cells #[] 9)).alloc (.cells #[.string x] 9)).drew (some ⟨W.heap.size, 0, none⟩) 0 0 [] := ((OwnS.lit W #[] [] rfl rfl (Nat.le_refl _) (Nat.zero_le _)).keep (b0 (W.alloc (.cells #[] 9)) (.cells #[.string x] 9))).drew_
                have hw3 : OwnS W.heap.size ((W.alloc (.cells #[.string x] 9)).alloc (.cells #[] 9)).drew (some ⟨W.heap.size + 1, 0, none⟩) 0 0 [] := by
                  have h := OwnS.lit (W.alloc (.cells #[.string x] 9)) (base := W.heap.size) (n := 0) #[] [] rfl rfl (by simp) (Nat.zero_le _)
                  have e : (W.alloc (.cells #[.string x] 9)).heap.size = W.heap.size + 1 := by simp
                  rw [e] at h
                  exact h
                have hx2 : RdS (W.heap.size + 2) ((W.alloc (.cells #[] 9)).alloc (.cells #[.string x] 9)).drew (some ⟨W.heap.size + 1, 0, none⟩) [x] := rdOne (W.alloc (.cells #[] 9)) x (W.heap.size + 1) (by simp)
                have hx3 : RdS (W.heap.size + 1) ((W.alloc (.cells #[.string x] 9)).alloc (.cells #[] 9)).drew (some ⟨W.heap.size, 0, none⟩) [x] := ((rdOne W x W.heap.size rfl).keep (b0 (W.alloc (.cells #[.string x] 9)) (.cells #[] 9)) (by simp)).drew_
                have HX2 : ∀ w5, World.grownBy ((W.alloc (.cells #[] 9)).alloc (.cells #[.string x] 9)).drew w5 (some W.heap.size) → RdS (W.heap.size + 2) w5 (some ⟨W.heap.size + 1, 0, none⟩) [x] := fun w5 hg => hx2.grown hg (by simp) (fun a e => by injection e with e; subst e; simp)
                have HX3 : ∀ w5, World.grownBy ((W.alloc (.cells #[.string x] 9)).alloc (.cells #[] 9)).drew w5 (some (W.heap.size + 1)) → RdS (W.heap.size + 1) w5 (some ⟨W.heap.size, 0, none⟩) [x] := fun w5 hg => hx3.grown hg (by simp) (fun a e => by injection e with e; subst e; simp)
                have Hw1 := Lib.hid hw1
                have Hw2 := Lib.hid hw2
                have Hw3 := Lib.hid hw3
                have HX2 := Lib.hid HX2
                have HX3 := Lib.hid HX3
                clear hw1 hw2 hw3 hx2 hx3
                have HM : Hid (MadeTo (dL l) (k + 1) (dL ([] ++ r.take q ++ [x] ++ r.drop q))) := by
                  have hlen := hO4.len
                  have e := dL_at HX.out
                  have h := madeTo_put hM.out (show k < (dL l).length by rw [dL_len, HN.out]; exact hlt) hL2.out.symm (show q ≤ (dL r).length by rw [dL_len]; omega) (fun j hj => by rw [e]; exact hLo.out j hj) (fun hj => by rw [e]; exact hHi.out (by rw [dL_len] at hj; omega))
                  rw [e] at h
                  show MadeTo _ _ _
                  simpa using h
                have HI : Hid (∀ y, y ∈ [] ++ r.take q ++ [x] ++ r.drop q → y ∈ l) := fun y hy => by
                  simp only [List.nil_append, List.mem_append, List.mem_singleton] at hy
                  rcases hy with (hy | hy) | hy
                  · exact hI.out y (List.mem_of_mem_take hy)
                  · rw [hy]; exact List.mem_of_getElem? HX.out
                  · exact hI.out y (List.mem_of_mem_drop hy)
                go_region_held3 (fun w' => w'.cell? (ad.add k) = some (.string x) ∧ Below W.heap.size W w')
                  (first | exact sKeep0 hcx4 | exact sKeepA (by assumption) hlt4 (Nat.le_refl _) _ | exact sKeepB (by assumption) hlt4 (by assumption))
                  (first
                    | (refine step_apS (o := ⟨some 68, _, _, _, _, _⟩) (base := W.heap.size) (n := 0) (m := q) (l := []) (l2 := r.take q) (by rfl) _ _ (by rfl) Try.underlying25 Try.underlying25 hi0 hz0 hz1 hz2 (by rfl) (by rfl) Hw1.out (rdNow (hO4.rd.take q) (by assumption)) HT.out q (by omega) (by omega) (szNow (by assumption)) ?_; intro A5 c5 w5 hO5 hb5 hg5)
                    | (refine step_apS (o := ⟨some 68, _, _, _, _, _⟩) (base := W.heap.size) (n := 0) (m := q) (l := []) (l2 := r.take q) (by rfl) _ _ (by rfl) Try.underlying25 Try.underlying25 hi0 hz0 hz1 hz2 (by rfl) (by rfl) Hw2.out (rdNow (hO4.rd.take q) (by assumption)) HT.out q (by omega) (by omega) (szNow (by assumption)) ?_; intro A5 c5 w5 hO5 hb5 hg5; have hx5 := HX2.out w5 hg5)
                    | (refine step_apS (o := ⟨some 68, _, _, _, _, _⟩) (base := W.heap.size) (n := 0) (m := q) (l := []) (l2 := r.take q) (by rfl) _ _ (by rfl) Try.underlying25 Try.underlying25 hi0 hz0 hz1 hz2 (by rfl) (by rfl) Hw3.out (rdNow (hO4.rd.take q) (by assumption)) HT.out q (by omega) (by omega) (szNow (by assumption)) ?_; intro A5 c5 w5 hO5 hb5 hg5; have hx5 := HX3.out w5 hg5)
                    | (refine step_apS (o := ⟨some 74, _, _, _, _, _⟩) (base := W.heap.size) (n := q) (m := 1) (l := [] ++ r.take q) (l2 := [x]) (by rfl) _ _ (by rfl) Try.underlying25 Try.underlying25 hi0 hz0 hz1 hz2 (by rfl) (by rfl) hO5 hx5 rfl (q + 1) (by omega) (by omega) (szNow (by assumption)) ?_; intro A6 c6 w6 hO6 hb6 hg6)
                    | (refine step_apS (o := ⟨some 74, _, _, _, _, _⟩) (base := W.heap.size) (n := q) (m := 1) (l := [] ++ r.take q) (l2 := [x]) (by rfl) _ _ (by rfl) Try.underlying25 Try.underlying25 hi0 hz0 hz1 hz2 (by rfl) (by rfl) (hO5.keep (b0 _ _)) (rdOne w5 x _ rfl) rfl (q + 1) (by omega) (by omega) (szNow (by assumption)) ?_; intro A6 c6 w6 hO6 hb6 hg6)
                    | (refine step_apS (o := ⟨some 78, _, _, _, _, _⟩) (base := W.heap.size) (n := q + 1) (m := n3 - q) (l := [] ++ r.take q ++ [x]) (l2 := r.drop q) (by rfl) _ _ (by rfl) Try.underlying25 Try.underlying25 hi0 hz0 hz1 hz2 (by rfl) (by rfl) hO6 (rdNow (hO4.rd.drop HC.out) (by assumption)) HD.out (n3 + 1) (by omega) (by omega) (szNow (by assumption)) ?_; intro A7 c7 w7 hO7 hb7 hg7))
                all_goals
                  go_wp2_with fail
                  go_roundw
                  case rel => exact ⟨k + 1, A7, n3 + 1, c7, [] ++ r.take q ++ [x] ++ r.drop q, by omega, by go_num, rfl, by omega, hO7.less hB4.size, HM, HI, lastB hB4 (by assumption) hB4.size⟩
                  case measure => simp [intOf]; omega
    · have hq : ¬ (k : Int) < (n : Int) := by omega
      have hkn := Lib.hid (show k = l.length by have := HN.out; omega)
      go_wp2_with fail
      go_ret
      exact ⟨⟨A3, n3, c3, r, rfl, hO, by rw [← hkn.out]; exact hM.out, hI.out⟩, hBw⟩
end Go.Proofs.Ytokkmofcijfmiaa
