/-
  WHAT IS PROVED: spinneyref04.Read reads a text's reach, as readR does, for texts of at most 1000 bytes. Conditions: those typed in the theorem.
-/
import Derived.Test.YtccdpbcldpmegaaDoorReachRef2
import Derived.Test.YtccdpbcldpmegaaDoorReachMath2
import Derived.Test.YtccdpbcldpmegaaDoorStrsOwn
import Derived.Deep.RegionHeld3
import Derived.Deep.DrawnRows
import Derived.Test.YtccdpbcldpmegaaDoorConv
import Derived.BigRegion
namespace Go.Proofs.YtccdpbcldpmegaaDoor
open Go.RowKit
attribute [local go_sem ↓] Go.wp_at_zero Go.wp_at_succ

theorem growL_set {L : List (List UInt8)} {p : Nat} {x : List UInt8} {c : UInt8} (hL : L.length = p + 1) (hx : L[p]? = some x) : growL L c = L.set p (x ++ [c]) := by
  have hne : L ≠ [] := by
    rintro rfl
    simp at hL
  obtain ⟨i, a, rfl⟩ : ∃ i a, L = i ++ [a] := ⟨L.dropLast, L.getLast hne, (List.dropLast_concat_getLast hne).symm⟩
  have hi : i.length = p := by simpa using hL
  subst hi
  have ha : a = x := by simpa using hx
  subst ha
  unfold growL
  simp
theorem first_cell {base : Nat} {W W' : World} {g n c : Nat} {l : List ByteArray} {x : ByteArray} (h : OwnS base W (some ⟨g, 0, none⟩) n c l) (hD : Drn W W') (hx : l[0]? = some x) : W'.cell? ⟨g, 0, none⟩ = some (.string x) :=
  (h.rd.keep (hD.below _) (Nat.le_refl _)).cells hx
/-- What Read answers. -/
def ReadRP (w : World) (s : ByteArray) (e : Ending) (w' : World) : Prop :=
  (match readR s.data.toList with
    | some r => ∃ (A' : Option Addr) (n' c' : Nat) (l : List ByteArray), e = .returned (.tuple #[.slice A' n' c', .bool true]) ∧ OwnS w.heap.size w' A' n' c' l ∧ dL l = r
    | none => e = .returned (.tuple #[.slice none 0 0, .bool false])) ∧ Below w.heap.size w w'

set_option maxRecDepth 100000 in
set_option maxHeartbeats 8000000 in
theorem refReachRead_any (s : ByteArray) (w : World) (hs : s.size ≤ 1000) :
    Calls Tryd.prog 6 #[.string s] w fun e w' => ReadRP w s e w' := by
  obtain ⟨i0, hi0, hz0, hz1, hz2⟩ := info_parts str_info
  by_cases h1 : s.data.toList = [33]
  · have e1 : (s.toList == [33]) = true := by rw [ByteArray.toList_eq, h1]; rfl
    have H1 := Lib.hid h1
    clear h1
    go_enter Tryd.func6, Tryd.ntmps6
    go_wp2_with fail
    go_ret2
    refine ⟨?_, Below.refl _ _⟩
    rw [H1.out]
    exact ⟨none, 0, 0, [], rfl, OwnS.nil _ _, rfl⟩
  · by_cases h2 : s.data.toList = [42]
    · have e1 : (s.toList == [33]) = false := by rw [ByteArray.toList_eq]; simpa using h1
      have e2 : (s.toList == [42]) = true := by rw [ByteArray.toList_eq, h2]; rfl
      have H2 := Lib.hid h2
      clear h1 h2
      go_enter Tryd.func6, Tryd.ntmps6
      go_wp2_with fail
      go_ret2
      refine ⟨?_, b0 _ _⟩
      rw [H2.out]
      exact ⟨_, 1, 1, [⟨#[]⟩], rfl, OwnS.lit w #[.string ⟨#[]⟩] [⟨#[]⟩] rfl rfl (Nat.le_refl _) (by decide), rfl⟩
    · have e1 : (s.toList == [33]) = false := by rw [ByteArray.toList_eq]; simpa using h1
      have e2 : (s.toList == [42]) = false := by rw [ByteArray.toList_eq]; simpa using h2
      have H1 := Lib.hid h1
      have H2 := Lib.hid h2
      clear h1 h2
      have hO0 : OwnS w.heap.size (w.alloc (.cells #[.string ⟨#[]⟩] 9)) (some ⟨w.heap.size, 0, none⟩) (0 + 1) 1 [⟨#[]⟩] := OwnS.lit w #[.string ⟨#[]⟩] [⟨#[]⟩] rfl rfl (Nat.le_refl _) (by decide)
      have HO0 := Lib.hid hO0
      clear hO0
      go_enter Tryd.func6, Tryd.ntmps6
      go_wp2_with fail
      go_loopw [4, 5] (fun out i wr => ∃ (k p : Nat) (A3 : Option Addr) (c3 : Nat) (r : List ByteArray), k ≤ s.size ∧ i = .int .i64 k ∧ out = .slice A3 (p + 1) c3 ∧ p ≤ k ∧ OwnS w.heap.size wr A3 (p + 1) c3 r ∧ Hid (dL r = commas (s.data.toList.take k)) ∧ Hid (∀ x, x ∈ r → x.size ≤ k) ∧ Below w.heap.size w wr) (fun _ i _ => s.size - (intOf i).toNat)
      case atStart => exact ⟨0, 0, _, 1, [⟨#[]⟩], Nat.zero_le _, rfl, rfl, Nat.le_refl _, HO0.out, rfl, fun x hx => by rw [List.mem_singleton.1 hx]; exact Nat.le_refl _, b0 _ _⟩
      case round =>
        obtain ⟨k, p, A3, c3, r, hk, rfl, rfl, hp, hO, hJ, hZ, hB⟩ := hrel
        by_cases hlt : k < s.size
        · have hts := key_snoc s k hlt
          have i1 : (0 : Int) ≤ (k : Int) := by omega
          have i2 : (k : Int) < (s.size : Int) := by omega
          by_cases hc : s[k] = 44
          · have e3 : ((s[k].toNat : Int) == 44) = true := by rw [hc]; rfl
            have HJ2 : Hid (dL (r ++ [⟨#[]⟩]) = commas (s.data.toList.take (k + 1))) := by
              show _ = _
              rw [hts, commas_snoc, if_pos hc, ← hJ.out]
              simp
            have HZ2 : Hid (∀ x, x ∈ r ++ [⟨#[]⟩] → x.size ≤ k + 1) := fun x hx => by
              rw [List.mem_append, List.mem_singleton] at hx
              rcases hx with hx | rfl
              · have := hZ.out x hx; omega
              · exact Nat.zero_le _
            clear hts hc
            go_wp2_with (at_builtin; refine wpList_apS (base := w.heap.size) (n := p + 1) (m := 1) (l := r) (l2 := [⟨#[]⟩]) (by rfl) _ _ (by rfl) Tryd.underlying23 Tryd.underlying23 hi0 hz0 hz1 hz2 (by rfl) (by rfl) (hO.keep (b0 _ _)) (rdOne wr ⟨#[]⟩ _ rfl) rfl (p + 1 + 1) rfl (by omega) (by have := hB.size; simp; omega) ?_; intro A5 c5 w5 hO5 hb5 hg5)
            go_roundw
            case rel => exact ⟨k + 1, p + 1, A5, c5, r ++ [⟨#[]⟩], by omega, by go_num, rfl, by omega, hO5, HJ2, HZ2, (hB.alloc hB.size _).trans hb5⟩
            case measure => simp [intOf]; omega
          · have e3 : ((s[k].toNat : Int) == 44) = false := by
              rw [beq_eq_false_iff_ne]
              intro e
              exact hc (UInt8.toNat_inj.1 (by show _ = 44; omega))
            obtain ⟨g, rfl, hg1, hg2⟩ := hO.form (by omega)
            obtain ⟨x, hx⟩ := get_ex (show p < r.length by have := hO.len; omega)
            have hcx := hO.rd.cells hx
            rw [show (⟨g, 0, none⟩ : Addr).add p = ⟨g, p, none⟩ by unfold Addr.add; split <;> simp_all] at hcx
            have hfx : wr.frozen? ⟨g, p, none⟩ = false := hO.free p
            have hlt4 : (⟨g, p, none⟩ : Addr).block < wr.heap.size := hg2
            have p1 : (0 : Int) ≤ (p : Int) := by omega
            have p2 : (p : Int) < (p : Int) + 1 := by omega
            have p3 : IntKind.i64.wrap (p : Int) = (p : Int) := IntWalk.i64_in _ (by omega)
            have hcv : (convert 38 9 (.slice (some ⟨wr.heap.size, 0, none⟩) 1 1)).run Tryd.prog (wr.alloc (.cells #[.int .u8 s[k].toNat] 5)).drew = .ok (.string ⟨#[s[k]]⟩) (wr.alloc (.cells #[.int .u8 s[k].toNat] 5)).drew := conv_one wr.drew _ _ rfl
            have hxz := hZ.out x (List.mem_of_getElem? hx)
            have hadd : Op.stringOp .add x ⟨#[s[k]]⟩ = pure (.string (x ++ ⟨#[s[k]]⟩)) := str_add' (by omega) (by show 1 ≤ _; omega)
            have HX := Lib.hid hx
            have HE := Lib.hid hc
            have HT := Lib.hid hts
            clear hx hc hts
            have hO2 : OwnS w.heap.size ((wr.setCell ⟨g, p, none⟩ (.string (x ++ ⟨#[s[k]]⟩))).alloc (.cells #[.int .u8 s[k].toNat] 5)).drew (some ⟨g, 0, none⟩) (p + 1) c3 (r.set p (x ++ ⟨#[s[k]]⟩)) :=
              OwnS.drew_ (OwnS.keep (hO.set p (x ++ ⟨#[s[k]]⟩)) (b0 (wr.setCell ⟨g, p, none⟩ (.string (x ++ ⟨#[s[k]]⟩))) (.cells #[.int .u8 s[k].toNat] 5)))
            have hB2 : Below w.heap.size w ((wr.setCell ⟨g, p, none⟩ (.string (x ++ ⟨#[s[k]]⟩))).alloc (.cells #[.int .u8 s[k].toNat] 5)).drew := by
              have h1 := hB.setCell (p := ⟨g, p, none⟩) hg1 (.string (x ++ ⟨#[s[k]]⟩))
              exact (h1.alloc h1.size _).drew
            have HO2 := Lib.hid hO2
            have HB2 := Lib.hid hB2
            clear hO2 hB2
            go_wp2_with fail
            go_region
            have HJ2 : Hid (dL (r.set p (x ++ ⟨#[s[k]]⟩)) = commas (s.data.toList.take (k + 1))) := by
              show _ = _
              rw [HT.out, commas_snoc, if_neg HE.out, ← hJ.out, growL_set (p := p) (by rw [dL_len]; exact hO.len) (dL_get HX.out)]
              show (r.set p _).map _ = _
              rw [List.map_set]
              congr 1
            have HZ2 : Hid (∀ y, y ∈ r.set p (x ++ ⟨#[s[k]]⟩) → y.size ≤ k + 1) := fun y hy => by
              rcases List.mem_or_eq_of_mem_set hy with h | rfl
              · have := hZ.out y h; omega
              · rw [ByteArray.size_append]
                show x.size + 1 ≤ _
                omega
            all_goals
              go_wp2_with fail
              go_roundw
              case rel => exact ⟨k + 1, p, _, c3, _, by omega, by go_num, rfl, by omega, HO2.out, HJ2, HZ2, HB2.out⟩
              case measure => simp [intOf]; omega
        · have hq : ¬ (k : Int) < (s.size : Int) := by omega
          have hJ2 : dL r = commas s.data.toList := by
            rw [hJ.out, List.take_of_length_le (by have : s.data.toList.length = s.size := Array.length_toList; omega)]
          have HJ2 := Lib.hid hJ2
          obtain ⟨g, rfl, hg1, hg2⟩ := hO.form (by omega)
          obtain ⟨x, hx⟩ := get_ex (show 0 < r.length by have := hO.len; omega)
          have hsz : ∀ x, x ∈ r → x.size ≤ maxLen := fun x hx => by have := hZ.out x hx; unfold maxLen; omega
          have Hsz := Lib.hid hsz
          have ex := dL_at hx
          have HX := Lib.hid hx
          have i3 : (0 : Int) < (p : Int) + 1 := by omega
          clear hJ2 hx hsz hJ
          by_cases hg : goodR (dL r) = true
          · have HG := Lib.hid hg
            by_cases h0 : x.data.toList = []
            · have e4 : x.toList.isEmpty = true := by rw [emptyB, h0]; rfl
              have R : Hid (readR s.data.toList = none) := by
                show _ = _
                unfold readR
                rw [if_neg H1.out, if_neg H2.out, if_neg]
                rintro ⟨_, h⟩
                rw [← HJ2.out, ex] at h
                exact h h0
              clear hg h0 ex
              go_wp2_with (go_at_call 9; refine (refRGood_is _ _ _ r _ true HG.out hO.len hO.rd (by unfold maxLen; omega) Hsz.out).mono ?_; rintro e w2 ⟨rfl, hD⟩; have hc0 := first_cell hO hD HX.out)
              go_ret2
              refine ⟨?_, bt hB (hD.below _)⟩
              rw [R.out]
              exact rfl
            · have e4 : x.toList.isEmpty = false := by rw [emptyB]; simpa using h0
              have R : Hid (readR s.data.toList = some (dL r)) := by
                show _ = _
                unfold readR
                rw [if_neg H1.out, if_neg H2.out, if_pos, HJ2.out]
                rw [← HJ2.out, ex]
                exact ⟨hg, h0⟩
              clear hg h0 ex
              go_wp2_with (go_at_call 9; refine (refRGood_is _ _ _ r _ true HG.out hO.len hO.rd (by unfold maxLen; omega) Hsz.out).mono ?_; rintro e w2 ⟨rfl, hD⟩; have hc0 := first_cell hO hD HX.out)
              go_ret2
              refine ⟨?_, bt hB (hD.below _)⟩
              rw [R.out]
              exact ⟨_, _, _, r, rfl, hO.keep (hD.below _), rfl⟩
          · have HG := Lib.hid (Bool.eq_false_iff.2 hg)
            have R : Hid (readR s.data.toList = none) := by
              show _ = _
              unfold readR
              rw [if_neg H1.out, if_neg H2.out, if_neg]
              rintro ⟨h, _⟩
              rw [← HJ2.out] at h
              exact hg h
            clear hg ex
            go_wp2_with (go_at_call 9; refine (refRGood_is _ _ _ r _ false HG.out hO.len hO.rd (by unfold maxLen; omega) Hsz.out).mono ?_; rintro e w2 ⟨rfl, hD⟩)
            go_ret2
            refine ⟨?_, bt hB (hD.below _)⟩
            rw [R.out]
            exact rfl
end Go.Proofs.YtccdpbcldpmegaaDoor
