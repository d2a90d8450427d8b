/-
  WHAT IS PROVED: spinneyref04.Text answers a reach's text, as textR does, for slices of at most 6 strings of at most 20 bytes. Conditions: those typed in the theorem. · what string(..) makes of one byte in a block of its own, and of a row of bytes that the call owns. · spinneyref04.Read reads a text's reach, as readR does, for texts of at most 1000 bytes. Conditions: those typed in the theorem.
-/
import Derived.Test.YtokkmofcijfmiaaDoorReachRef2
import Derived.Test.YtokkmofcijfmiaaDoorGQ5
import Derived.Test.YtokkmofcijfmiaaDoorBase
import Derived.Laws.IdiomStrings
import Derived.Laws.BytesArg
import Derived.Laws.OwnMore
import Derived.Laws.AppendOwn
import Derived.Test.YtokkmofcijfmiaaDoorGQ0
import Derived.Deep.RegionHeld3
import Derived.Deep.DrawnRows
import Derived.BigRegion
namespace Go.Proofs.YtokkmofcijfmiaaDoor
open Go.RowKit

set_option maxHeartbeats 2000000 in
theorem refReachText_any {B : Nat} (A : Option Addr) (n c : Nat) (l : List ByteArray) (w : World) (hn : l.length = n) (hr : RdS B w A l) (hm : n ≤ 6) (hs : ∀ x, x ∈ l → x.size ≤ 20) :
    Calls Tryd.prog 16 #[.slice A n c] w fun e w' => (∃ s : ByteArray, e = .returned (.string s) ∧ s.data.toList = textR (dL l)) ∧ w = w' := by
  have HN := Lib.hid hn
  have HS := Lib.hid hs
  clear hn hs
  go_enter Tryd.func16, Tryd.ntmps16
  go_wp2_with fail
  go_loop [3, 7] (fun u i => ∃ (k : Nat) (s : ByteArray), k ≤ n ∧ i = .int .i64 k ∧ u = .string s ∧ s.size ≤ 21 * k ∧ Hid (s.data.toList = joinC ((dL l).take k))) (fun _ i => n - (intOf i).toNat)
  case atStart => exact ⟨0, ⟨#[]⟩, Nat.zero_le _, rfl, rfl, Nat.le_refl _, rfl⟩
  case round =>
    obtain ⟨k, s, hk, rfl, rfl, hsz, hJ⟩ := hrel
    by_cases hlt : k < n
    · obtain ⟨x, hx⟩ := get_ex (show k < l.length by have := HN.out; omega)
      obtain ⟨ad, rfl, _, hc⟩ := hr k x hx
      have i1 : (0 : Int) ≤ (k : Int) := by omega
      have i2 : (k : Int) < (n : Int) := by omega
      have hxs := HS.out x (List.mem_of_getElem? hx)
      have HX := Lib.hid hx
      clear hx
      have ht := take_succ_get HX.out
      by_cases k0 : k = 0
      · have g0 : decide (0 < k) = false := by simp; omega
        have HJ2 : Hid ((s ++ x).data.toList = joinC ((dL l).take (k + 1))) := by
          show _ = _
          rw [ht, joinC_snoc, if_pos (by rw [k0]; rfl), ByteArray.toList_data_append', hJ.out, k0]
          rfl
        clear k0 ht
        go_wp2_with fail
        go_round
        case rel => exact ⟨k + 1, s ++ x, by omega, by go_num, rfl, by rw [ByteArray.size_append]; omega, HJ2⟩
        case measure => simp [intOf]; omega
      · have g0 : (0 : Int) < (k : Int) := by omega
        have HJ2 : Hid ((s ++ ⟨#[44]⟩ ++ x).data.toList = joinC ((dL l).take (k + 1))) := by
          show _ = _
          rw [ht, joinC_snoc, if_neg (by
            intro e
            have := congrArg List.length e
            rw [List.length_take, dL_len, HN.out] at this
            simp at this
            omega), ByteArray.toList_data_append', ByteArray.toList_data_append', hJ.out]
          simp
        clear k0 ht
        go_wp2_with fail
        go_round
        case rel => exact ⟨k + 1, s ++ ⟨#[44]⟩ ++ x, by omega, by go_num, rfl, by rw [ByteArray.size_append, ByteArray.size_append]; show s.size + 1 + x.size ≤ _; omega, HJ2⟩
        case measure => simp [intOf]; omega
    · have hq : ¬ (k : Int) < (n : Int) := by omega
      have hJ2 : s.data.toList = joinC (dL l) := by
        rw [hJ.out, List.take_of_length_le (by rw [dL_len, HN.out]; omega)]
      clear hJ
      by_cases n0 : n = 0
      · have e0 : ((n : Int) == 0) = true := by rw [n0]; rfl
        have hl : dL l = [] := by
          have := HN.out
          rw [n0] at this
          exact List.eq_nil_of_length_eq_zero (by rw [dL_len]; exact this)
        have R : Hid (([33] : List UInt8) = textR (dL l)) := by
          show _ = _
          rw [hl]
          rfl
        clear hl n0 hJ2
        go_wp2_with fail
        go_ret
        exact ⟨⟨_, rfl, R.out⟩, rfl⟩
      · have e0 : ((n : Int) == 0) = false := by simp; omega
        have hl : dL l ≠ [] := by
          intro e
          have := congrArg List.length e
          rw [dL_len, HN.out] at this
          exact n0 this
        by_cases s0 : s.data.toList = []
        · have e1 : s.toList.isEmpty = true := by rw [emptyB, s0]; rfl
          have R : Hid (([42] : List UInt8) = textR (dL l)) := by
            show _ = _
            unfold textR
            rw [if_neg hl, if_pos (by rw [← hJ2]; exact s0)]
          clear hl n0 hJ2 s0
          go_wp2_with fail
          go_ret
          exact ⟨⟨_, rfl, R.out⟩, rfl⟩
        · have e1 : s.toList.isEmpty = false := by rw [emptyB]; simpa using s0
          have R : Hid (s.data.toList = textR (dL l)) := by
            show _ = _
            unfold textR
            rw [if_neg hl, if_neg (by rw [← hJ2]; exact s0), hJ2]
          clear hl n0 hJ2 s0
          go_wp2_with fail
          go_ret
          exact ⟨⟨_, rfl, R.out⟩, rfl⟩
end Go.Proofs.YtokkmofcijfmiaaDoor

namespace Go.Proofs.YtokkmofcijfmiaaDoor
open Go.RowKit

/-- string of one byte. -/
theorem conv_one (W : World) (n : Int) (c : UInt8) (h : n = (c.toNat : Int)) :
    (convert 34 9 (.slice (some ⟨W.heap.size, 0, none⟩) 1 1)).run Tryd.prog (W.alloc (.cells #[.int .u8 n] 5)) = .ok (.string ⟨#[c]⟩) (W.alloc (.cells #[.int .u8 n] 5)) := by
  have := run_convert_bytes_back (P := Tryd.prog) (W.alloc (.cells #[.int .u8 n] 5)) 34 9 5 ⟨W.heap.size, 0, none⟩ 1 [c] Tryd.underlying34 Tryd.underlying5 Tryd.underlying9 (by
    intro j hj
    have hj0 : j = 0 := by simpa using hj
    subst hj0
    subst h
    have e : (⟨W.heap.size, 0, none⟩ : Addr).add 0 = ⟨W.heap.size, 0, none⟩ := by simp [Addr.add]
    rw [e]
    go_simp)
  simpa using this
/-- string of a row of the call's own. -/
theorem conv_own (W : World) (B : Nat) (v : Value) (l : List UInt8) (h : W.ownsRow B 5 1 v l.length (Lib.byteCells l)) :
    (convert 34 9 v).run Tryd.prog W = .ok (.string ⟨l.toArray⟩) W := by
  rcases h.2 with ⟨rfl, h0⟩ | ⟨g, cap, cur, rfl, _⟩
  · have : l = [] := List.length_eq_zero_iff.1 h0
    subst this
    exact run_convert_bytes_nil W 34 5 Tryd.underlying34 Tryd.underlying5 0 0 9 Tryd.underlying9
  · refine run_convert_bytes_back W 34 9 5 ⟨g, 0, none⟩ cap l Tryd.underlying34 Tryd.underlying5 Tryd.underlying9 ?_
    intro j hj
    have e : (⟨g, 0, none⟩ : Addr).add j = ⟨g, j, none⟩ := by unfold Addr.add; split <;> simp_all
    rw [e, h.cellAt j (by omega)]
    simp [Lib.byteCells, hj]

theorem str_add' {a b : ByteArray} (ha : a.size ≤ 100000) (hb : b.size ≤ 100000) : Op.stringOp .add a b = pure (.string (a ++ b)) := by
  unfold Op.stringOp
  have e : IntKind.i64.max = 9223372036854775807 := rfl
  simp only
  rw [if_neg]
  rw [e]
  omega
end Go.Proofs.YtokkmofcijfmiaaDoor

namespace Go.Proofs.YtokkmofcijfmiaaDoor
open Go.RowKit
attribute [local go_sem ↓] Go.wp_at_zero Go.wp_at_succ

theorem growL_set {L : List (List UInt8)} {p : Nat} {x : List UInt8} {c : UInt8} (hL : L.length = p + 1) (hx : L[p]? = some x) : growL L c = L.set p (x ++ [c]) := by
  have hne : L ≠ [] := by
    rintro rfl
    simp at hL
  obtain ⟨i, a, rfl⟩ : ∃ i a, L = i ++ [a] := ⟨L.dropLast, L.getLast hne, (List.dropLast_concat_getLast hne).symm⟩
  have hi : i.length = p := by simpa using hL
  subst hi
  have ha : a = x := by simpa using hx
  subst ha
  unfold growL
  simp
theorem first_cell {base : Nat} {W W' : World} {g n c : Nat} {l : List ByteArray} {x : ByteArray} (h : OwnS base W (some ⟨g, 0, none⟩) n c l) (hD : Drn W W') (hx : l[0]? = some x) : W'.cell? ⟨g, 0, none⟩ = some (.string x) :=
  (h.rd.keep (hD.below _) (Nat.le_refl _)).cells hx
/-- What Read answers. -/
def ReadRP (w : World) (s : ByteArray) (e : Ending) (w' : World) : Prop :=
  (match readR s.data.toList with
    | some r => ∃ (A' : Option Addr) (n' c' : Nat) (l : List ByteArray), e = .returned (.tuple #[.slice A' n' c', .bool true]) ∧ OwnS w.heap.size w' A' n' c' l ∧ dL l = r
    | none => e = .returned (.tuple #[.slice none 0 0, .bool false])) ∧ Below w.heap.size w w'

set_option maxRecDepth 100000 in
set_option maxHeartbeats 8000000 in
theorem refReachRead_any (s : ByteArray) (w : World) (hs : s.size ≤ 1000) :
    Calls Tryd.prog 12 #[.string s] w fun e w' => ReadRP w s e w' := by
  obtain ⟨i0, hi0, hz0, hz1, hz2⟩ := info_parts str_info
  by_cases h1 : s.data.toList = [33]
  · have e1 : (s.toList == [33]) = true := by rw [ByteArray.toList_eq, h1]; rfl
    have H1 := Lib.hid h1
    clear h1
    go_enter Tryd.func12, Tryd.ntmps12
    go_wp2_with fail
    go_ret2
    refine ⟨?_, Below.refl _ _⟩
    rw [H1.out]
    exact ⟨none, 0, 0, [], rfl, OwnS.nil _ _, rfl⟩
  · by_cases h2 : s.data.toList = [42]
    · have e1 : (s.toList == [33]) = false := by rw [ByteArray.toList_eq]; simpa using h1
      have e2 : (s.toList == [42]) = true := by rw [ByteArray.toList_eq, h2]; rfl
      have H2 := Lib.hid h2
      clear h1 h2
      go_enter Tryd.func12, Tryd.ntmps12
      go_wp2_with fail
      go_ret2
      refine ⟨?_, b0 _ _⟩
      rw [H2.out]
      exact ⟨_, 1, 1, [⟨#[]⟩], rfl, OwnS.lit w #[.string ⟨#[]⟩] [⟨#[]⟩] rfl rfl (Nat.le_refl _) (by decide), rfl⟩
    · have e1 : (s.toList == [33]) = false := by rw [ByteArray.toList_eq]; simpa using h1
      have e2 : (s.toList == [42]) = false := by rw [ByteArray.toList_eq]; simpa using h2
      have H1 := Lib.hid h1
      have H2 := Lib.hid h2
      clear h1 h2
      have hO0 : OwnS w.heap.size (w.alloc (.cells #[.string ⟨#[]⟩] 9)) (some ⟨w.heap.size, 0, none⟩) (0 + 1) 1 [⟨#[]⟩] := OwnS.lit w #[.string ⟨#[]⟩] [⟨#[]⟩] rfl rfl (Nat.le_refl _) (by decide)
      have HO0 := Lib.hid hO0
      clear hO0
      go_enter Tryd.func12, Tryd.ntmps12
      go_wp2_with fail
      go_loopw [4, 5] (fun out i wr => ∃ (k p : Nat) (A3 : Option Addr) (c3 : Nat) (r : List ByteArray), k ≤ s.size ∧ i = .int .i64 k ∧ out = .slice A3 (p + 1) c3 ∧ p ≤ k ∧ OwnS w.heap.size wr A3 (p + 1) c3 r ∧ Hid (dL r = commas (s.data.toList.take k)) ∧ Hid (∀ x, x ∈ r → x.size ≤ k) ∧ Below w.heap.size w wr) (fun _ i _ => s.size - (intOf i).toNat)
      case atStart => exact ⟨0, 0, _, 1, [⟨#[]⟩], Nat.zero_le _, rfl, rfl, Nat.le_refl _, HO0.out, rfl, fun x hx => by rw [List.mem_singleton.1 hx]; exact Nat.le_refl _, b0 _ _⟩
      case round =>
        obtain ⟨k, p, A3, c3, r, hk, rfl, rfl, hp, hO, hJ, hZ, hB⟩ := hrel
        by_cases hlt : k < s.size
        · have hts := key_snoc s k hlt
          have i1 : (0 : Int) ≤ (k : Int) := by omega
          have i2 : (k : Int) < (s.size : Int) := by omega
          by_cases hc : s[k] = 44
          · have e3 : ((s[k].toNat : Int) == 44) = true := by rw [hc]; rfl
            have HJ2 : Hid (dL (r ++ [⟨#[]⟩]) = commas (s.data.toList.take (k + 1))) := by
              show _ = _
              rw [hts, commas_snoc, if_pos hc, ← hJ.out]
              simp
            have HZ2 : Hid (∀ x, x ∈ r ++ [⟨#[]⟩] → x.size ≤ k + 1) := fun x hx => by
              rw [List.mem_append, List.mem_singleton] at hx
              rcases hx with hx | rfl
              · have := hZ.out x hx; omega
              · exact Nat.zero_le _
            clear hts hc
            go_wp2_with (at_builtin; refine wpList_apS (base := w.heap.size) (n := p + 1) (m := 1) (l := r) (l2 := [⟨#[]⟩]) (by rfl) _ _ (by rfl) Tryd.underlying23 Tryd.underlying23 hi0 hz0 hz1 hz2 (by rfl) (by rfl) (hO.keep (b0 _ _)) (rdOne wr ⟨#[]⟩ _ rfl) rfl (p + 1 + 1) rfl (by omega) (by have := hB.size; simp; omega) ?_; intro A5 c5 w5 hO5 hb5 hg5)
            go_roundw
            case rel => exact ⟨k + 1, p + 1, A5, c5, r ++ [⟨#[]⟩], by omega, by go_num, rfl, by omega, hO5, HJ2, HZ2, (hB.alloc hB.size _).trans hb5⟩
            case measure => simp [intOf]; omega
          · have e3 : ((s[k].toNat : Int) == 44) = false := by
              rw [beq_eq_false_iff_ne]
              intro e
              exact hc (UInt8.toNat_inj.1 (by show _ = 44; omega))
            obtain ⟨g, rfl, hg1, hg2⟩ := hO.form (by omega)
            obtain ⟨x, hx⟩ := get_ex (show p < r.length by have := hO.len; omega)
            have hcx := hO.rd.cells hx
            rw [show (⟨g, 0, none⟩ : Addr).add p = ⟨g, p, none⟩ by unfold Addr.add; split <;> simp_all] at hcx
            have hfx : wr.frozen? ⟨g, p, none⟩ = false := hO.free p
            have hlt4 : (⟨g, p, none⟩ : Addr).block < wr.heap.size := hg2
            have p1 : (0 : Int) ≤ (p : Int) := by omega
            have p2 : (p : Int) < (p : Int) + 1 := by omega
            have p3 : IntKind.i64.wrap (p : Int) = (p : Int) := IntWalk.i64_in _ (by omega)
            have hcv : (convert 34 9 (.slice (some ⟨wr.heap.size, 0, none⟩) 1 1)).run Tryd.prog (wr.alloc (.cells #[.int .u8 s[k].toNat] 5)).drew = .ok (.string ⟨#[s[k]]⟩) (wr.alloc (.cells #[.int .u8 s[k].toNat] 5)).drew := conv_one wr.drew _ _ rfl
            have hxz := hZ.out x (List.mem_of_getElem? hx)
            have hadd : Op.stringOp .add x ⟨#[s[k]]⟩ = pure (.string (x ++ ⟨#[s[k]]⟩)) := str_add' (by omega) (by show 1 ≤ _; omega)
            have HX := Lib.hid hx
            have HE := Lib.hid hc
            have HT := Lib.hid hts
            clear hx hc hts
            have hO2 : OwnS w.heap.size ((wr.setCell ⟨g, p, none⟩ (.string (x ++ ⟨#[s[k]]⟩))).alloc (.cells #[.int .u8 s[k].toNat] 5)).drew (some ⟨g, 0, none⟩) (p + 1) c3 (r.set p (x ++ ⟨#[s[k]]⟩)) :=
              OwnS.drew_ (OwnS.keep (hO.set p (x ++ ⟨#[s[k]]⟩)) (b0 (wr.setCell ⟨g, p, none⟩ (.string (x ++ ⟨#[s[k]]⟩))) (.cells #[.int .u8 s[k].toNat] 5)))
            have hB2 : Below w.heap.size w ((wr.setCell ⟨g, p, none⟩ (.string (x ++ ⟨#[s[k]]⟩))).alloc (.cells #[.int .u8 s[k].toNat] 5)).drew := by
              have h1 := hB.setCell (p := ⟨g, p, none⟩) hg1 (.string (x ++ ⟨#[s[k]]⟩))
              exact (h1.alloc h1.size _).drew
            have HO2 := Lib.hid hO2
            have HB2 := Lib.hid hB2
            clear hO2 hB2
            go_wp2_with fail
            go_region
            have HJ2 : Hid (dL (r.set p (x ++ ⟨#[s[k]]⟩)) = commas (s.data.toList.take (k + 1))) := by
              show _ = _
              rw [HT.out, commas_snoc, if_neg HE.out, ← hJ.out, growL_set (p := p) (by rw [dL_len]; exact hO.len) (dL_get HX.out)]
              show (r.set p _).map _ = _
              rw [List.map_set]
              congr 1
            have HZ2 : Hid (∀ y, y ∈ r.set p (x ++ ⟨#[s[k]]⟩) → y.size ≤ k + 1) := fun y hy => by
              rcases List.mem_or_eq_of_mem_set hy with h | rfl
              · have := hZ.out y h; omega
              · rw [ByteArray.size_append]
                show x.size + 1 ≤ _
                omega
            all_goals
              go_wp2_with fail
              go_roundw
              case rel => exact ⟨k + 1, p, _, c3, _, by omega, by go_num, rfl, by omega, HO2.out, HJ2, HZ2, HB2.out⟩
              case measure => simp [intOf]; omega
        · have hq : ¬ (k : Int) < (s.size : Int) := by omega
          have hJ2 : dL r = commas s.data.toList := by
            rw [hJ.out, List.take_of_length_le (by have : s.data.toList.length = s.size := Array.length_toList; omega)]
          have HJ2 := Lib.hid hJ2
          obtain ⟨g, rfl, hg1, hg2⟩ := hO.form (by omega)
          obtain ⟨x, hx⟩ := get_ex (show 0 < r.length by have := hO.len; omega)
          have hsz : ∀ x, x ∈ r → x.size ≤ maxLen := fun x hx => by have := hZ.out x hx; unfold maxLen; omega
          have Hsz := Lib.hid hsz
          have ex := dL_at hx
          have HX := Lib.hid hx
          have i3 : (0 : Int) < (p : Int) + 1 := by omega
          clear hJ2 hx hsz hJ
          by_cases hg : goodR (dL r) = true
          · have HG := Lib.hid hg
            by_cases h0 : x.data.toList = []
            · have e4 : x.toList.isEmpty = true := by rw [emptyB, h0]; rfl
              have R : Hid (readR s.data.toList = none) := by
                show _ = _
                unfold readR
                rw [if_neg H1.out, if_neg H2.out, if_neg]
                rintro ⟨_, h⟩
                rw [← HJ2.out, ex] at h
                exact h h0
              clear hg h0 ex
              go_wp2_with (go_at_call 15; refine (refRGood_is _ _ _ r _ true HG.out hO.len hO.rd (by unfold maxLen; omega) Hsz.out).mono ?_; rintro e w2 ⟨rfl, hD⟩; have hc0 := first_cell hO hD HX.out)
              go_ret2
              refine ⟨?_, bt hB (hD.below _)⟩
              rw [R.out]
              exact rfl
            · have e4 : x.toList.isEmpty = false := by rw [emptyB]; simpa using h0
              have R : Hid (readR s.data.toList = some (dL r)) := by
                show _ = _
                unfold readR
                rw [if_neg H1.out, if_neg H2.out, if_pos, HJ2.out]
                rw [← HJ2.out, ex]
                exact ⟨hg, h0⟩
              clear hg h0 ex
              go_wp2_with (go_at_call 15; refine (refRGood_is _ _ _ r _ true HG.out hO.len hO.rd (by unfold maxLen; omega) Hsz.out).mono ?_; rintro e w2 ⟨rfl, hD⟩; have hc0 := first_cell hO hD HX.out)
              go_ret2
              refine ⟨?_, bt hB (hD.below _)⟩
              rw [R.out]
              exact ⟨_, _, _, r, rfl, hO.keep (hD.below _), rfl⟩
          · have HG := Lib.hid (Bool.eq_false_iff.2 hg)
            have R : Hid (readR s.data.toList = none) := by
              show _ = _
              unfold readR
              rw [if_neg H1.out, if_neg H2.out, if_neg]
              rintro ⟨h, _⟩
              rw [← HJ2.out] at h
              exact hg h
            clear hg ex
            go_wp2_with (go_at_call 15; refine (refRGood_is _ _ _ r _ false HG.out hO.len hO.rd (by unfold maxLen; omega) Hsz.out).mono ?_; rintro e w2 ⟨rfl, hD⟩)
            go_ret2
            refine ⟨?_, bt hB (hD.below _)⟩
            rw [R.out]
            exact rfl
end Go.Proofs.YtokkmofcijfmiaaDoor
