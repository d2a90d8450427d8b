/-
  WHAT IS PROVED: package frame's Scan: what it answers, as the chapter says. Conditions: those typed in the theorem.
-/
import Derived.Test.YtggoinjjdogmaaaDoorFOpen
namespace Go.Proofs.YtggoinjjdogmaaaDoor
open Go.RowKit

theorem add_zero_at (g j : Nat) : (⟨g, 0, none⟩ : Addr).add j = ⟨g, j, none⟩ := by
  unfold Addr.add
  split <;> simp_all
/-- One frame's taking, as the code finds it. -/
theorem take_cases (y : List UInt8) : ((takeF y).2.2.1 = 0 → (takeF y).2.2.2 = 2) ∧ ((takeF y).2.2.1 ≠ 0 → 9 ≤ (takeF y).2.2.1 ∧ (takeF y).2.2.1 ≤ y.length ∧ (takeF y).1 = (unsF (y.take (takeF y).2.2.1)).1 ∧ (takeF y).2.1 = (unsF (y.take (takeF y).2.2.1)).2.1 ∧ (takeF y).2.2.2 = (unsF (y.take (takeF y).2.2.1)).2.2) := by
  refine ⟨fun h => ?_, fun h => ?_⟩
  · by_cases hc : y.length < 9 ∨ byteAt y 0 ≠ 229 ∨ 100000 < lenF y ∨ y.length < lenF y + 9
    · exact (size_none hc).2
    · exfalso
      have h1 : byteAt y 0 = 229 := Classical.byContradiction fun e => hc (.inr (.inl e))
      have := size_some (b := y) (by omega) h1 (by omega) (by omega)
      omega
  · obtain ⟨q1, q2, q3, q4, q5⟩ := takeF_size h
    have hu := uns_take q1 q2 q3 q4
    rw [q5]
    exact ⟨by omega, q4, by rw [hu], by rw [hu], by rw [hu]⟩

set_option maxRecDepth 100000 in
set_option maxHeartbeats 8000000 in
theorem scan_any (A : Option Addr) (n c : Nat) (b : List UInt8) (w : World) (hL : LaidF w) (hn : b.length = n) (hc : n ≤ c) (hm : n ≤ 200000) (hr : RdB w.heap.size w A b) :
    Calls Tryd.prog 17 #[.slice A n c] w fun e w' => (∃ (l : List Pc) (m code : Nat) (A' : Option Addr) (c' : Nat), ScanR b l m code ∧ e = .returned (.tuple #[.slice A' l.length c', .int .i64 (m : Nat), .int .i64 (code : Nat)]) ∧ RdPc w'.heap.size w' A' l) ∧ Below w.heap.size w w' := by
  obtain ⟨i0, hi0, hz0, hz1, hz2⟩ := info_parts pc_info
  have HN := Lib.hid hn
  have HR := Lib.hid hr
  have HA := Lib.hid (fun W (h : Below w.heap.size w W) v m (hv : ErrF v m) => answer_any v m W (hL.keep h) hv)
  clear hn hr
  go_enter Tryd.func17, Tryd.ntmps17
  go_wp2_with fail
  go_loopw [5, 6] (fun t u wr => ∃ (at_ : Nat) (ps : List Pc) (vs : List PcV) (A' : Option Addr) (k c' : Nat), t = .slice A' k c' ∧ u = .int .i64 at_ ∧ at_ ≤ n ∧ k ≤ at_ ∧ OwnPc w.heap.size wr A' k c' vs ∧ InPc w.heap.size wr vs ps ∧ Below w.heap.size w wr ∧ Hid (∀ l m code, ScanR (b.drop at_) l m code → ScanR b (ps ++ l) (at_ + m) code)) (fun _ u _ => n - (intOf u).toNat)
  case atStart => exact ⟨0, [], [], none, 0, 0, rfl, rfl, Nat.zero_le _, Nat.le_refl _, OwnPc.nil _ _, InPc.nil _ _, Below.refl _ _, fun l m code h => by rw [Nat.zero_add]; exact h⟩
  case round =>
    obtain ⟨at_, ps, vs, A', k, c', rfl, rfl, hat, hka, hO, hI, hB, hS⟩ := hrel
    have HK : Hid (ps.length = k) := by show _ = _; rw [← hI.1]; exact hO.len
    by_cases hlt : at_ < n
    · have i1 : (at_ : Int) < (n : Int) := by omega
      have hyl : Hid ((b.drop at_).length = n - at_) := by show _ = _; rw [List.length_drop, HN.out]
      have hyne : Hid (b.drop at_ ≠ []) := by
        show _ ≠ _
        intro e
        have := hyl.out
        rw [e] at this
        simp at this
        omega
      have hry := HR.out.cut (p := at_) (c := c) (by rw [HN.out]; exact hc)
      generalize hdy : b.drop at_ = y at hyl hyne hry hS
      have HDY := Lib.hid hdy
      clear hdy
      have FL := length_any (cutA A c at_) (n - at_) (c - at_) y wr hyl.out (hry.keep hB (Nat.le_refl _)) (by omega)
      obtain ⟨hT0, hT1⟩ := take_cases y
      rw [hyl.out] at hT1
      have HS0 : Hid ((takeF y).2.2.2 ≠ 0 → ScanR b ps at_ (takeF y).2.2.2) := fun h => by
        have := hS.out [] 0 _ (.stop hyne.out h)
        rwa [List.append_nil] at this
      have HS1 : Hid ((takeF y).2.2.2 = 0 → ∀ l m code, ScanR (b.drop (at_ + (takeF y).2.2.1)) l m code → ScanR b ((ps ++ [((takeF y).1, (takeF y).2.1)]) ++ l) (at_ + (takeF y).2.2.1 + m) code) := fun h l m code hx => by
        have e : y.drop (takeF y).2.2.1 = b.drop (at_ + (takeF y).2.2.1) := by rw [← HDY.out, List.drop_drop]
        have := hS.out _ _ _ (.more hyne.out h (by rw [e]; exact hx))
        rwa [List.append_assoc, Nat.add_assoc]
      generalize takeF y = r at FL hT0 hT1 HS0 HS1
      obtain ⟨rk, rin, rs, rcode⟩ := r
      simp only at FL hT0 hT1 HS0 HS1
      have HT1 := Lib.hid hT1
      have HFL := Lib.hid FL
      clear FL hS hT1
      have qc := fun W => run_cut W A n c at_ (by omega)
      go_wp2_with fail
      refine HFL.out.mono ?_
      rintro e w1 ⟨⟨v, rfl, hv⟩, hb1⟩
      have hB1 := bt hB hb1
      have hO1 := hO.keep hb1
      have hI1 := hI.keep hb1
      clear HFL hb1 hO hI
      rcases hv with ⟨hs0, rfl⟩ | ⟨hs0, hcode, hv⟩
      · obtain ⟨h9, hsl, e1, e2, e3⟩ := HT1.out hs0
        have q2 : ∀ W : World, (Instr.sliceAt 22 (.slice A n c) (some (.int .i64 (at_ : Int))) (some (.int .i64 ((at_ : Int) + (rs : Int)))) none).run Tryd.prog W = .ok (.slice (cutA A c at_) rs (c - at_)) W := fun W => by
          have h := run_cut2 W A n c at_ (at_ + rs) (at_ : Int) ((at_ : Int) + (rs : Int)) rfl (by omega) (by omega) (by omega) hc
          rwa [show at_ + rs - at_ = rs by omega] at h
        have FU := unseal_any (cutA A c at_) rs (c - at_) (y.take rs) w1 (hL.keep hB1) (by rw [List.length_take, hyl.out]; omega) ((hry.take rs).keep hB1 (Nat.le_refl _)) hB1.size h9 (by omega) (by omega)
        rw [← e1, ← e2, ← e3] at FU
        have HFU := Lib.hid FU
        clear FU e1 e2 e3 HT1 hry
        go_wp2_with fail
        refine HFU.out.mono ?_
        rintro e w2 ⟨⟨A2, c2, v, rfl, hO2, hv⟩, hb2⟩
        have hB2 := bt hB1 hb2
        have hO3 := hO1.keep hb2
        have hI3 := hI1.keep hb2
        clear HFU hb2 hO1 hI1
        have hQ := blk_new w2 #[.int .u8 (rk.toNat : Int), .slice A2 rin.length c2] 31
        have hba := b0 w2 (.cells #[.int .u8 (rk.toNat : Int), .slice A2 rin.length c2] 31)
        have hB3 := ba hB2 (.cells #[.int .u8 (rk.toNat : Int), .slice A2 rin.length c2] 31)
        have hO4 := hO3.keep hba
        have hI4 := hI3.keep hba
        have hO24 := hO2.keep hba
        rcases hv with ⟨rfl, hcode⟩ | ⟨rfl, hcode⟩
        · have HX := Lib.hid (HS1.out hcode)
          have hz3 : (w2.alloc (.cells #[.int .u8 (rk.toNat : Int), .slice A2 rin.length c2] 31)).heap.size = w2.heap.size + 1 := by simp
          have hba2 := b0 (w2.alloc (.cells #[.int .u8 (rk.toNat : Int), .slice A2 rin.length c2] 31)) (.cells #[.int .u8 (rk.toNat : Int), .slice A2 rin.length c2] 31)
          have hB5 := bt hB3 hba2
          have hO5 := hO4.keep hba2
          have hI5 := hI4.keep hba2
          have hO25 := (hO24.keep hba2).less hB1.size
          have hx : ∀ j v, (PcV.cells ⟨rk, A2, rin.length, c2⟩)[j]? = some v → ((w2.alloc (.cells #[.int .u8 (rk.toNat : Int), .slice A2 rin.length c2] 31)).alloc (.cells #[.int .u8 (rk.toNat : Int), .slice A2 rin.length c2] 31)).cell? ((⟨w2.heap.size + 1, 0, none⟩ : Addr).add j) = some v := by
            intro j v hv
            rw [add_zero_at, (blk_at hz3.symm (PcV.cells ⟨rk, A2, rin.length, c2⟩) 31).cell j]
            exact hv
          have hz := hB5.size
          clear HS0 HS1 hO4 hI4 hO24 hO2 hO3 hI3 hba hba2 hcode hT0
          go_wp2_with (at_builtin; refine wpList_apPc (base := w.heap.size) (n := k) (l := vs) (xx := ⟨rk, A2, rin.length, c2⟩) (by rfl) _ _ (by rfl) Tryd.underlying39 Tryd.underlying39 hi0 hz0 hz1 hz2 (by rfl) (by rfl) hO5 hx (by omega) hz ?_; intro A5 c5 w5 hO6 hb5 hg5)
          have hI6 := (hI5.grown hO5 hg5).snoc (x := ⟨rk, A2, rin.length, c2⟩) (q := (rk, rin)) rfl (hO25.keepPc hO5 hg5)
          have hB6 := hB5.trans hb5
          go_roundw
          case rel => exact ⟨at_ + rs, ps ++ [(rk, rin)], vs ++ [⟨rk, A2, rin.length, c2⟩], A5, k + 1, c5, rfl, by go_num, by omega, by omega, hO6, hI6, hB6, HX.out⟩
          case measure => simp [intOf]; omega
        · have HX := Lib.hid (HS0.out (by omega))
          have HV : Hid (ErrF (.iface 62 (.int .i64 4)) 4) := .inr (.inl rfl)
          subst hcode
          go_wp2_with fail
          refine (HA.out _ hB3 _ 4 HV.out).mono ?_
          rintro e w4 ⟨rfl, hb4⟩
          have hB4 := bt hB3 hb4
          have hO5 := hO4.keep hb4
          have hI5 := hI4.keep hb4
          go_wp2_with fail
          go_ret3
          exact ⟨⟨ps, at_, 4, A', c', HX.out, by rw [HK.out]; rfl, hO5.rd hI5⟩, hB4⟩
      · have hc2 := hT0 hs0
        subst hc2
        have HX := Lib.hid (HS0.out (by omega))
        rcases hv with rfl | ⟨l, rfl⟩
        · have HV : Hid (ErrF (.iface 62 (.int .i64 2)) 2) := .inr (.inl rfl)
          go_wp2_with fail
          refine (HA.out _ hB1 _ 2 HV.out).mono ?_
          rintro e w4 ⟨rfl, hb4⟩
          have hB4 := bt hB1 hb4
          have hO5 := hO1.keep hb4
          have hI5 := hI1.keep hb4
          go_wp2_with fail
          go_ret3
          exact ⟨⟨ps, at_, 2, A', c', HX.out, by rw [HK.out]; rfl, hO5.rd hI5⟩, hB4⟩
        · have HV : Hid (ErrF (.iface 54 (.agg #[.int .i64 l, .int .i64 2])) 2) := .inr (.inr ⟨l, rfl⟩)
          go_wp2_with fail
          refine (HA.out _ hB1 _ 2 HV.out).mono ?_
          rintro e w4 ⟨rfl, hb4⟩
          have hB4 := bt hB1 hb4
          have hO5 := hO1.keep hb4
          have hI5 := hI1.keep hb4
          go_wp2_with fail
          go_ret3
          exact ⟨⟨ps, at_, 2, A', c', HX.out, by rw [HK.out]; rfl, hO5.rd hI5⟩, hB4⟩
    · have i1 : ¬ (at_ : Int) < (n : Int) := by omega
      have HX : Hid (ScanR b ps at_ 0) := by
        show ScanR _ _ _ _
        have h := hS.out [] 0 0 (by rw [List.drop_eq_nil_of_le (by rw [HN.out]; omega)]; exact .done)
        rwa [List.append_nil] at h
      go_wp2_with fail
      go_ret3
      exact ⟨⟨ps, at_, 0, HX.out, A', ⟨c', by rw [HK.out]; rfl⟩, hO.rd hI⟩, hB⟩
end Go.Proofs.YtggoinjjdogmaaaDoor
