/-
  WHAT IS PROVED: spinneyref04.Good tells whether a list of strings is a reach, as goodR does, for every slice of strings. Conditions: those typed in the theorem.
-/
import Derived.Test.YtokkmofcijfmiaaDoorGQ1
import Derived.Test.YtokkmofcijfmiaaDoorGQ2
import Derived.IntWalk
namespace Go.Proofs.YtokkmofcijfmiaaDoor
open Go.RowKit

theorem RdS.cells {B : Nat} {W : World} {ad : Addr} {l : List ByteArray} (h : RdS B W (some ad) l) {k : Nat} {x : ByteArray} (hx : l[k]? = some x) : W.cell? (ad.add k) = some (.string x) := by
  obtain ⟨a2, e, _, hc⟩ := h k x hx
  injection e with e
  subst e
  exact hc
theorem emptyB (x : ByteArray) : x.toList.isEmpty = x.data.toList.isEmpty := by rw [ByteArray.toList_eq]
theorem texts_is (a b : ByteArray) (v : Int) (h : Lib.compareBytes a.data.toList b.data.toList = v) (ha : a.size ≤ maxLen) (hb : b.size ≤ maxLen) (w : World) :
    Calls Tryd.prog 33 #[.string a, .string b] w fun e w' => e = .returned (.int .i64 v) ∧ Drn w w' := by
  subst h
  exact texts_drn a b w ha hb
theorem refKey_is (s : ByteArray) (b : Bool) (h : keyB s.data.toList = b) (hs : s.size ≤ maxLen) (w : World) :
    Calls Tryd.prog 32 #[.string s] w fun e w' => e = .returned (.bool b) ∧ w = w' := by
  subst h
  exact refKey_any s w hs
theorem ltB_val {a b : List UInt8} : (ltB a b = true ∧ Lib.compareBytes a b = -1) ∨ (ltB a b = false ∧ Lib.compareBytes a b = 0) ∨ (ltB a b = false ∧ Lib.compareBytes a b = 1) := by
  unfold ltB
  rcases cmpB_cases a b with h | h | h
  · exact Or.inl ⟨by rw [h]; rfl, h⟩
  · exact Or.inr (Or.inl ⟨by rw [h]; rfl, h⟩)
  · exact Or.inr (Or.inr ⟨by rw [h]; rfl, h⟩)
theorem okAt_pre {r : List (List UInt8)} {i : Nat} (h : preB (atR r i) = false) : okAt r i = false := by
  rw [Bool.eq_false_iff]
  intro hh
  rw [(okAt_iff.1 hh).1] at h
  cases h
theorem okAt_lt {r : List (List UInt8)} {i : Nat} (h0 : i ≠ 0) (h : ltB (atR r (i - 1)) (atR r i) = false) : okAt r i = false := by
  rw [Bool.eq_false_iff]
  intro hh
  rcases (okAt_iff.1 hh).2.1 with e | e
  · exact h0 e
  · rw [e] at h; cases h
theorem okAt_beg {r : List (List UInt8)} {i k : Nat} (hk : k < r.length) (hne : k ≠ i) (h : begB (atR r k) (atR r i) = true) : okAt r i = false := by
  rw [Bool.eq_false_iff]
  intro hh
  rw [(okAt_iff.1 hh).2.2 k hk hne] at h
  cases h

set_option maxRecDepth 100000 in
set_option maxHeartbeats 4000000 in
theorem refRGood_any {B : Nat} (A : Option Addr) (n c : Nat) (l : List ByteArray) (w : World) (hn : l.length = n) (hr : RdS B w A l) (hm : n ≤ maxLen) (hs : ∀ x, x ∈ l → x.size ≤ maxLen) :
    Calls Tryd.prog 15 #[.slice A n c] w fun e w' => e = .returned (.bool (goodR (dL l))) ∧ Drn w w' := by
  unfold maxLen at hm
  have HN := Lib.hid hn
  have HS := Lib.hid hs
  clear hn hs
  go_enter Tryd.func15, Tryd.ntmps15
  go_wp2_with fail
  go_loopw [7] (fun i wr => ∃ k : Nat, k ≤ n ∧ i = .int .i64 k ∧ Hid (∀ j, j < k → okAt (dL l) j = true) ∧ Drn w wr) (fun i _ => n - (intOf i).toNat)
  case atStart => exact ⟨0, Nat.zero_le _, rfl, fun j hj => by omega, Drn.refl _⟩
  case round =>
    obtain ⟨k, hk, rfl, hA, hD⟩ := hrel
    by_cases hlt : k < n
    · obtain ⟨x, hx⟩ := get_ex (show k < l.length by have := HN.out; omega)
      have hr1 := hr.keep (hD.below B) (Nat.le_refl _)
      obtain ⟨ad, rfl, _, hc⟩ := hr1 k x hx
      have i1 : (0 : Int) ≤ (k : Int) := by omega
      have i2 : (k : Int) < (n : Int) := by omega
      have hxs := HS.out x (List.mem_of_getElem? hx)
      have HX := Lib.hid hx
      have HL := Lib.hid (show k < (dL l).length by rw [dL_len, HN.out]; exact hlt)
      clear hx
      by_cases hp : preB x.data.toList = true
      · have hp2 : x.toList.isEmpty = true ∨ (x.toList.isEmpty = false ∧ Hid (keyB x.data.toList = true)) := by
          unfold preB at hp
          rw [Bool.or_eq_true] at hp
          rw [emptyB]
          cases h0 : x.data.toList.isEmpty with
          | true => exact Or.inl rfl
          | false => exact Or.inr ⟨rfl, hp.resolve_left (by rw [h0]; exact Bool.false_ne_true)⟩
        have HP := Lib.hid hp
        clear hp
        have hcase : (∃ x1, Hid (l[k - 1]? = some x1) ∧ Hid (ltB x1.data.toList x.data.toList = false) ∧ 0 < k ∧ ∃ v : Int, 0 ≤ v ∧ Hid (Lib.compareBytes x1.data.toList x.data.toList = v)) ∨
            (∃ x1, Hid (l[k - 1]? = some x1) ∧ Hid (ltB x1.data.toList x.data.toList = true) ∧ 0 < k ∧ Hid (Lib.compareBytes x1.data.toList x.data.toList = -1)) ∨ Hid (k = 0) := by
          by_cases k0 : k = 0
          · exact Or.inr (Or.inr k0)
          · obtain ⟨x1, hx1⟩ := get_ex (l := l) (k := k - 1) (by have := HN.out; omega)
            rcases ltB_val (a := x1.data.toList) (b := x.data.toList) with ⟨h1, h2⟩ | ⟨h1, h2⟩ | ⟨h1, h2⟩
            · exact Or.inr (Or.inl ⟨x1, hx1, h1, by omega, h2⟩)
            · exact Or.inl ⟨x1, hx1, h1, by omega, 0, by omega, h2⟩
            · exact Or.inl ⟨x1, hx1, h1, by omega, 1, by omega, h2⟩
        rcases hcase with ⟨x1, HX1, HLT, k0, v, hv, HV⟩ | ⟨x1, HX1, HLT, k0, HV⟩ | K0
        · have hc1 := hr1.cells HX1.out
          have hx1s := HS.out x1 (List.mem_of_getElem? HX1.out)
          have R := Lib.hid (goodR_bad HL.out (okAt_lt (by omega) (by rw [dL_at HX1.out, dL_at HX.out]; exact HLT.out)))
          have g0 : (0 : Int) < (k : Int) := by omega
          have s1 : (0 : Int) ≤ (k : Int) - 1 := by omega
          have s2 : (k : Int) - 1 < (n : Int) := by omega
          have s3 : ((k : Int) - 1).toNat = k - 1 := by omega
          have s4 : IntKind.i64.wrap ((k : Int) - 1) = (k : Int) - 1 := IntWalk.i64_in _ (by omega)
          rcases hp2 with e1 | ⟨e1, HK⟩
          all_goals
            go_wp2_with (go_at_call 32; refine (refKey_is _ true HK.out hxs _).mono ?_; rintro e w2 ⟨rfl, rfl⟩)
            go_quiet ((go_at_call 33; exact Calls.quiet_of (texts_is _ _ _ HV.out hx1s hxs _)))
            go_wp2_with fail
            go_ret
            exact ⟨ret_bool R.out.symm, hD.draws _⟩
        · have hc1 := hr1.cells HX1.out
          have hx1s := HS.out x1 (List.mem_of_getElem? HX1.out)
          have HO : Hid (k = 0 ∨ ltB (atR (dL l) (k - 1)) (atR (dL l) k) = true) := Or.inr (by rw [dL_at HX1.out, dL_at HX.out]; exact HLT.out)
          have g0 : (0 : Int) < (k : Int) := by omega
          have s1 : (0 : Int) ≤ (k : Int) - 1 := by omega
          have s2 : (k : Int) - 1 < (n : Int) := by omega
          have s3 : ((k : Int) - 1).toNat = k - 1 := by omega
          have s4 : IntKind.i64.wrap ((k : Int) - 1) = (k : Int) - 1 := IntWalk.i64_in _ (by omega)
          rcases hp2 with e1 | ⟨e1, HK⟩
          all_goals
            go_wp2_with (go_at_call 32; refine (refKey_is _ true HK.out hxs _).mono ?_; rintro e w2 ⟨rfl, rfl⟩)
            go_quiet ((go_at_call 33; exact Calls.quiet_of (texts_is _ _ _ HV.out hx1s hxs _)))
            clear s1 s2 s3 s4 hc1 hc
            go_wp2_with fail
            go_loopw [40] (fun t wr2 => ∃ j : Nat, j ≤ n ∧ t = .int .i64 j ∧ Hid (∀ i, i < j → i ≠ k → begB (atR (dL l) i) x.data.toList = false) ∧ Drn w wr2) (fun t _ => n - (intOf t).toNat)
            case atStart => exact ⟨0, Nat.zero_le _, rfl, fun j hj => by omega, hD.draws _⟩
            case round =>
              obtain ⟨j, hj, rfl, hA2, hD2⟩ := hrel
              have hr2 := hr.keep (hD2.below B) (Nat.le_refl _)
              have hcx := hr2.cells HX.out
              by_cases hjl : j < n
              · obtain ⟨y, hy⟩ := get_ex (show j < l.length by have := HN.out; omega)
                have hcy := hr2.cells hy
                have HY := Lib.hid hy
                clear hy
                have j1 : (0 : Int) ≤ (j : Int) := by omega
                have j2 : (j : Int) < (n : Int) := by omega
                by_cases hjk : j = k
                · have e2 : ((j : Int) != (k : Int)) = false := by rw [hjk]; simp
                  have HA2 : Hid (∀ i, i < j + 1 → i ≠ k → begB (atR (dL l) i) x.data.toList = false) := fun i hi hne => hA2.out i (by omega) hne
                  clear hjk
                  go_wp2_with fail
                  go_quiet (fail)
                  go_wp2_with fail
                  go_roundw
                  case rel => exact ⟨j + 1, by omega, by go_num, HA2, hD2.draws _⟩
                  case measure => simp [intOf]; omega
                · have e2 : ((j : Int) != (k : Int)) = true := by rw [bne_iff_ne]; omega
                  have HJK := Lib.hid hjk
                  by_cases hb : begB y.data.toList x.data.toList = true
                  · have R := Lib.hid (goodR_bad HL.out (okAt_beg (k := j) (by rw [dL_len, HN.out]; exact hjl) hjk (by rw [dL_at HX.out, dL_at HY.out]; exact hb)))
                    have HB := Lib.hid hb
                    clear hb hjk
                    go_wp2_with fail
                    go_quiet ((go_at_call 34; exact Calls.quiet_of_same ((begins_is _ _ true HB.out _).mono fun _ _ h => ⟨h.1, h.2.symm⟩)))
                    go_wp2_with fail
                    go_ret
                    exact ⟨ret_bool R.out.symm, hD2.draws _⟩
                  · have HB := Lib.hid (Bool.eq_false_iff.2 hb)
                    have HA2 : Hid (∀ i, i < j + 1 → i ≠ k → begB (atR (dL l) i) x.data.toList = false) := fun i hi hne => by
                      by_cases e : i = j
                      · subst e
                        rw [dL_at HY.out]
                        exact HB.out
                      · exact hA2.out i (by omega) hne
                    clear hb hjk
                    go_wp2_with fail
                    go_quiet ((go_at_call 34; exact Calls.quiet_of_same ((begins_is _ _ false HB.out _).mono fun _ _ h => ⟨h.1, h.2.symm⟩)))
                    go_wp2_with fail
                    go_roundw
                    case rel => exact ⟨j + 1, by omega, by go_num, HA2, hD2.draws _⟩
                    case measure => simp [intOf]; omega
              · have hq : ¬ (j : Int) < (n : Int) := by omega
                have HA3 : Hid (∀ i, i < k + 1 → okAt (dL l) i = true) := fun i hi => by
                  by_cases e : i = k
                  · rw [e]
                    refine okAt_iff.2 ⟨by rw [dL_at HX.out]; exact HP.out, HO.out, fun t ht hne => ?_⟩
                    rw [dL_at HX.out]
                    exact hA2.out t (by have := HN.out; rw [dL_len] at ht; omega) hne
                  · exact hA.out i (by omega)
                go_wp2_with fail
                go_roundw
                case rel => exact ⟨k + 1, by omega, by go_num, HA3, hD2⟩
                case measure => simp [intOf]; omega
        · have HO : Hid (k = 0 ∨ ltB (atR (dL l) (k - 1)) (atR (dL l) k) = true) := Or.inl K0.out
          have g0 : decide (0 < k) = false := by have := K0.out; simp; omega
          rcases hp2 with e1 | ⟨e1, HK⟩
          all_goals
            go_wp2_with (go_at_call 32; refine (refKey_is _ true HK.out hxs _).mono ?_; rintro e w2 ⟨rfl, rfl⟩)
            go_quiet (fail)
            clear g0 hc
            go_wp2_with fail
            go_loopw [40] (fun t wr2 => ∃ j : Nat, j ≤ n ∧ t = .int .i64 j ∧ Hid (∀ i, i < j → i ≠ k → begB (atR (dL l) i) x.data.toList = false) ∧ Drn w wr2) (fun t _ => n - (intOf t).toNat)
            case atStart => exact ⟨0, Nat.zero_le _, rfl, fun j hj => by omega, hD.draws _⟩
            case round =>
              obtain ⟨j, hj, rfl, hA2, hD2⟩ := hrel
              have hr2 := hr.keep (hD2.below B) (Nat.le_refl _)
              have hcx := hr2.cells HX.out
              by_cases hjl : j < n
              · obtain ⟨y, hy⟩ := get_ex (show j < l.length by have := HN.out; omega)
                have hcy := hr2.cells hy
                have HY := Lib.hid hy
                clear hy
                have j1 : (0 : Int) ≤ (j : Int) := by omega
                have j2 : (j : Int) < (n : Int) := by omega
                by_cases hjk : j = k
                · have e2 : ((j : Int) != (k : Int)) = false := by rw [hjk]; simp
                  have HA2 : Hid (∀ i, i < j + 1 → i ≠ k → begB (atR (dL l) i) x.data.toList = false) := fun i hi hne => hA2.out i (by omega) hne
                  clear hjk
                  go_wp2_with fail
                  go_quiet (fail)
                  go_wp2_with fail
                  go_roundw
                  case rel => exact ⟨j + 1, by omega, by go_num, HA2, hD2.draws _⟩
                  case measure => simp [intOf]; omega
                · have e2 : ((j : Int) != (k : Int)) = true := by rw [bne_iff_ne]; omega
                  have HJK := Lib.hid hjk
                  by_cases hb : begB y.data.toList x.data.toList = true
                  · have R := Lib.hid (goodR_bad HL.out (okAt_beg (k := j) (by rw [dL_len, HN.out]; exact hjl) hjk (by rw [dL_at HX.out, dL_at HY.out]; exact hb)))
                    have HB := Lib.hid hb
                    clear hb hjk
                    go_wp2_with fail
                    go_quiet ((go_at_call 34; exact Calls.quiet_of_same ((begins_is _ _ true HB.out _).mono fun _ _ h => ⟨h.1, h.2.symm⟩)))
                    go_wp2_with fail
                    go_ret
                    exact ⟨ret_bool R.out.symm, hD2.draws _⟩
                  · have HB := Lib.hid (Bool.eq_false_iff.2 hb)
                    have HA2 : Hid (∀ i, i < j + 1 → i ≠ k → begB (atR (dL l) i) x.data.toList = false) := fun i hi hne => by
                      by_cases e : i = j
                      · subst e
                        rw [dL_at HY.out]
                        exact HB.out
                      · exact hA2.out i (by omega) hne
                    clear hb hjk
                    go_wp2_with fail
                    go_quiet ((go_at_call 34; exact Calls.quiet_of_same ((begins_is _ _ false HB.out _).mono fun _ _ h => ⟨h.1, h.2.symm⟩)))
                    go_wp2_with fail
                    go_roundw
                    case rel => exact ⟨j + 1, by omega, by go_num, HA2, hD2.draws _⟩
                    case measure => simp [intOf]; omega
              · have hq : ¬ (j : Int) < (n : Int) := by omega
                have HA3 : Hid (∀ i, i < k + 1 → okAt (dL l) i = true) := fun i hi => by
                  by_cases e : i = k
                  · rw [e]
                    refine okAt_iff.2 ⟨by rw [dL_at HX.out]; exact HP.out, HO.out, fun t ht hne => ?_⟩
                    rw [dL_at HX.out]
                    exact hA2.out t (by have := HN.out; rw [dL_len] at ht; omega) hne
                  · exact hA.out i (by omega)
                go_wp2_with fail
                go_roundw
                case rel => exact ⟨k + 1, by omega, by go_num, HA3, hD2⟩
                case measure => simp [intOf]; omega
      · have R := Lib.hid (goodR_bad HL.out (okAt_pre (by rw [dL_at HX.out]; exact Bool.eq_false_iff.2 hp)))
        unfold preB at hp
        rw [Bool.or_eq_true, not_or] at hp
        have e1 : x.toList.isEmpty = false := by rw [emptyB]; exact Bool.eq_false_iff.2 hp.1
        have HK := Lib.hid (Bool.eq_false_iff.2 hp.2)
        clear hp
        go_wp2_with (go_at_call 32; refine (refKey_is _ false HK.out hxs _).mono ?_; rintro e w2 ⟨rfl, rfl⟩)
        go_ret
        exact ⟨ret_bool R.out.symm, hD⟩
    · have hq : ¬ (k : Int) < (n : Int) := by omega
      have R : Hid (goodR (dL l) = decide (n ≤ 6)) := by
        show _ = _
        rw [goodR_all fun j hj => hA.out j (by have := HN.out; rw [dL_len] at hj; omega), dL_len, HN.out]
      clear hA
      go_wp2_with fail
      go_ret
      refine ⟨ret_bool ?_, hD⟩
      rw [R.out, Bool.eq_iff_iff]
      simp
      omega
theorem refRGood_is {B : Nat} (A : Option Addr) (n c : Nat) (l : List ByteArray) (w : World) (b : Bool) (hb : goodR (dL l) = b) (hn : l.length = n) (hr : RdS B w A l) (hm : n ≤ maxLen) (hs : ∀ x, x ∈ l → x.size ≤ maxLen) :
    Calls Tryd.prog 15 #[.slice A n c] w fun e w' => e = .returned (.bool b) ∧ Drn w w' := by
  subst hb
  exact refRGood_any A n c l w hn hr hm hs
end Go.Proofs.YtokkmofcijfmiaaDoor
