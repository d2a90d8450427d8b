/-
  WHAT IS PROVED: package frame's Scan: what it answers, as the chapter says. Conditions: those typed in the theorem. · package frame's calls answer as FrameC says. Conditions: those typed in FrameC. · the law of FrameSeals answers true for every kind and all bytes, if package frame's calls answer as FrameC says. Conditions: those typed in the theorem. · the law of the statement FrameSeals answers true, over the code itself. Conditions: the package variables that the code reads hold what the program's text lays (LaidF). · what the code of package frame reads of the package variables, out of the rows' own condition; a world that meets it: the witness of each row of this seat.
-/
import Derived.Test.YtokkmofcijfmiaaDoorGQ7
import Derived.Test.YtokkmofcijfmiaaDoorFSeal
import Derived.Test.YtokkmofcijfmiaaDoorGQ3
import Derived.Test.YtokkmofcijfmiaaDoorGQ2
import Derived.Test.YtokkmofcijfmiaaDoorRows
import Derived.LaidMore
import Derived.LaidHandle
import Derived.Lib.LaidTab
import Derived.Stop.LaidErr
import Derived.Lay
namespace Go.Proofs.YtokkmofcijfmiaaDoor
open Go.RowKit

theorem add_zero_at (g j : Nat) : (⟨g, 0, none⟩ : Addr).add j = ⟨g, j, none⟩ := by
  unfold Addr.add
  split <;> simp_all
/-- One frame's taking, as the code finds it. -/
theorem take_cases (y : List UInt8) : ((takeF y).2.2.1 = 0 → (takeF y).2.2.2 = 2) ∧ ((takeF y).2.2.1 ≠ 0 → 9 ≤ (takeF y).2.2.1 ∧ (takeF y).2.2.1 ≤ y.length ∧ (takeF y).1 = (unsF (y.take (takeF y).2.2.1)).1 ∧ (takeF y).2.1 = (unsF (y.take (takeF y).2.2.1)).2.1 ∧ (takeF y).2.2.2 = (unsF (y.take (takeF y).2.2.1)).2.2) := by
  refine ⟨fun h => ?_, fun h => ?_⟩
  · by_cases hc : y.length < 9 ∨ byteAt y 0 ≠ 229 ∨ 100000 < lenF y ∨ y.length < lenF y + 9
    · exact (size_none hc).2
    · exfalso
      have h1 : byteAt y 0 = 229 := Classical.byContradiction fun e => hc (.inr (.inl e))
      have := size_some (b := y) (by omega) h1 (by omega) (by omega)
      omega
  · obtain ⟨q1, q2, q3, q4, q5⟩ := takeF_size h
    have hu := uns_take q1 q2 q3 q4
    rw [q5]
    exact ⟨by omega, q4, by rw [hu], by rw [hu], by rw [hu]⟩

set_option maxRecDepth 100000 in
set_option maxHeartbeats 8000000 in
theorem scan_any (A : Option Addr) (n c : Nat) (b : List UInt8) (w : World) (hL : LaidF w) (hn : b.length = n) (hc : n ≤ c) (hm : n ≤ 200000) (hr : RdB w.heap.size w A b) :
    Calls Tryd.prog 22 #[.slice A n c] w fun e w' => (∃ (l : List Pc) (m code : Nat) (A' : Option Addr) (c' : Nat), ScanR b l m code ∧ e = .returned (.tuple #[.slice A' l.length c', .int .i64 (m : Nat), .int .i64 (code : Nat)]) ∧ RdPc w'.heap.size w' A' l) ∧ Below w.heap.size w w' := by
  obtain ⟨i0, hi0, hz0, hz1, hz2⟩ := info_parts pc_info
  have HN := Lib.hid hn
  have HR := Lib.hid hr
  have HA := Lib.hid (fun W (h : Below w.heap.size w W) v m (hv : ErrF v m) => fanswer_any v m W (hL.keep h) hv)
  clear hn hr
  go_enter Tryd.func22, Tryd.ntmps22
  go_wp2_with fail
  go_loopw [5, 6] (fun t u wr => ∃ (at_ : Nat) (ps : List Pc) (vs : List PcV) (A' : Option Addr) (k c' : Nat), t = .slice A' k c' ∧ u = .int .i64 at_ ∧ at_ ≤ n ∧ k ≤ at_ ∧ OwnPc w.heap.size wr A' k c' vs ∧ InPc w.heap.size wr vs ps ∧ Below w.heap.size w wr ∧ Hid (∀ l m code, ScanR (b.drop at_) l m code → ScanR b (ps ++ l) (at_ + m) code)) (fun _ u _ => n - (intOf u).toNat)
  case atStart => exact ⟨0, [], [], none, 0, 0, rfl, rfl, Nat.zero_le _, Nat.le_refl _, OwnPc.nil _ _, InPc.nil _ _, Below.refl _ _, fun l m code h => by rw [Nat.zero_add]; exact h⟩
  case round =>
    obtain ⟨at_, ps, vs, A', k, c', rfl, rfl, hat, hka, hO, hI, hB, hS⟩ := hrel
    have HK : Hid (ps.length = k) := by show _ = _; rw [← hI.1]; exact hO.len
    by_cases hlt : at_ < n
    · have i1 : (at_ : Int) < (n : Int) := by omega
      have hyl : Hid ((b.drop at_).length = n - at_) := by show _ = _; rw [List.length_drop, HN.out]
      have hyne : Hid (b.drop at_ ≠ []) := by
        show _ ≠ _
        intro e
        have := hyl.out
        rw [e] at this
        simp at this
        omega
      have hry := HR.out.cut (p := at_) (c := c) (by rw [HN.out]; exact hc)
      generalize hdy : b.drop at_ = y at hyl hyne hry hS
      have HDY := Lib.hid hdy
      clear hdy
      have FL := length_any (cutA A c at_) (n - at_) (c - at_) y wr hyl.out (by omega) (hry.keep hB (Nat.le_refl _)) (by omega)
      obtain ⟨hT0, hT1⟩ := take_cases y
      rw [hyl.out] at hT1
      have HS0 : Hid ((takeF y).2.2.2 ≠ 0 → ScanR b ps at_ (takeF y).2.2.2) := fun h => by
        have := hS.out [] 0 _ (.stop hyne.out h)
        rwa [List.append_nil] at this
      have HS1 : Hid ((takeF y).2.2.2 = 0 → ∀ l m code, ScanR (b.drop (at_ + (takeF y).2.2.1)) l m code → ScanR b ((ps ++ [((takeF y).1, (takeF y).2.1)]) ++ l) (at_ + (takeF y).2.2.1 + m) code) := fun h l m code hx => by
        have e : y.drop (takeF y).2.2.1 = b.drop (at_ + (takeF y).2.2.1) := by rw [← HDY.out, List.drop_drop]
        have := hS.out _ _ _ (.more hyne.out h (by rw [e]; exact hx))
        rwa [List.append_assoc, Nat.add_assoc]
      generalize takeF y = r at FL hT0 hT1 HS0 HS1
      obtain ⟨rk, rin, rs, rcode⟩ := r
      simp only at FL hT0 hT1 HS0 HS1
      have HT1 := Lib.hid hT1
      have HFL := Lib.hid FL
      clear FL hS hT1
      have qc := fun W => run_cut W A n c at_ (by omega)
      go_wp2_with fail
      refine HFL.out.mono ?_
      rintro e w1 ⟨⟨v, rfl, hv⟩, hb1⟩
      have hB1 := bt hB hb1
      have hO1 := hO.keep hb1
      have hI1 := hI.keep hb1
      clear HFL hb1 hO hI
      rcases hv with ⟨hs0, rfl⟩ | ⟨hs0, hcode, hv⟩
      · obtain ⟨h9, hsl, e1, e2, e3⟩ := HT1.out hs0
        have q2 : ∀ W : World, (Instr.sliceAt 34 (.slice A n c) (some (.int .i64 (at_ : Int))) (some (.int .i64 ((at_ : Int) + (rs : Int)))) none).run Tryd.prog W = .ok (.slice (cutA A c at_) rs (c - at_)) W := fun W => by
          have h := run_cut2 W A n c at_ (at_ + rs) (at_ : Int) ((at_ : Int) + (rs : Int)) rfl (by omega) (by omega) (by omega) hc
          rwa [show at_ + rs - at_ = rs by omega] at h
        have FU := unseal_any (cutA A c at_) rs (c - at_) (y.take rs) w1 (hL.keep hB1) (by rw [List.length_take, hyl.out]; omega) ((hry.take rs).keep hB1 (Nat.le_refl _)) hB1.size h9 (by omega) (by omega)
        rw [← e1, ← e2, ← e3] at FU
        have HFU := Lib.hid FU
        clear FU e1 e2 e3 HT1 hry
        go_wp2_with fail
        refine HFU.out.mono ?_
        rintro e w2 ⟨⟨A2, c2, v, rfl, hO2, hv⟩, hb2⟩
        have hB2 := bt hB1 hb2
        have hO3 := hO1.keep hb2
        have hI3 := hI1.keep hb2
        clear HFU hb2 hO1 hI1
        have hQ := blk_new w2 #[.int .u8 (rk.toNat : Int), .slice A2 rin.length c2] 38
        have hba := b0 w2 (.cells #[.int .u8 (rk.toNat : Int), .slice A2 rin.length c2] 38)
        have hB3 := ba hB2 (.cells #[.int .u8 (rk.toNat : Int), .slice A2 rin.length c2] 38)
        have hO4 := hO3.keep hba
        have hI4 := hI3.keep hba
        have hO24 := hO2.keep hba
        rcases hv with ⟨rfl, hcode⟩ | ⟨rfl, hcode⟩
        · have HX := Lib.hid (HS1.out hcode)
          have hz3 : (w2.alloc (.cells #[.int .u8 (rk.toNat : Int), .slice A2 rin.length c2] 38)).heap.size = w2.heap.size + 1 := by simp
          have hba2 := b0 (w2.alloc (.cells #[.int .u8 (rk.toNat : Int), .slice A2 rin.length c2] 38)) (.cells #[.int .u8 (rk.toNat : Int), .slice A2 rin.length c2] 38)
          have hB5 := bt hB3 hba2
          have hO5 := hO4.keep hba2
          have hI5 := hI4.keep hba2
          have hO25 := (hO24.keep hba2).less hB1.size
          have hx : ∀ j v, (PcV.cells ⟨rk, A2, rin.length, c2⟩)[j]? = some v → ((w2.alloc (.cells #[.int .u8 (rk.toNat : Int), .slice A2 rin.length c2] 38)).alloc (.cells #[.int .u8 (rk.toNat : Int), .slice A2 rin.length c2] 38)).cell? ((⟨w2.heap.size + 1, 0, none⟩ : Addr).add j) = some v := by
            intro j v hv
            rw [add_zero_at, (blk_at hz3.symm (PcV.cells ⟨rk, A2, rin.length, c2⟩) 38).cell j]
            exact hv
          have hz := hB5.size
          clear HS0 HS1 hO4 hI4 hO24 hO2 hO3 hI3 hba hba2 hcode hT0
          go_wp2_with (at_builtin; refine wpList_apPc (base := w.heap.size) (n := k) (l := vs) (xx := ⟨rk, A2, rin.length, c2⟩) (by rfl) _ _ (by rfl) Tryd.underlying47 Tryd.underlying47 hi0 hz0 hz1 hz2 (by rfl) (by rfl) hO5 hx (by omega) hz ?_; intro A5 c5 w5 hO6 hb5 hg5)
          have hI6 := (hI5.grown hO5 hg5).snoc (x := ⟨rk, A2, rin.length, c2⟩) (q := (rk, rin)) rfl (hO25.keepPc hO5 hg5)
          have hB6 := hB5.trans hb5
          go_roundw
          case rel => exact ⟨at_ + rs, ps ++ [(rk, rin)], vs ++ [⟨rk, A2, rin.length, c2⟩], A5, k + 1, c5, rfl, by go_num, by omega, by omega, hO6, hI6, hB6, HX.out⟩
          case measure => simp [intOf]; omega
        · have HX := Lib.hid (HS0.out (by omega))
          have HV : Hid (ErrF (.iface 92 (.int .i64 4)) 4) := .inr (.inl rfl)
          subst hcode
          go_wp2_with fail
          refine (HA.out _ hB3 _ 4 HV.out).mono ?_
          rintro e w4 ⟨rfl, hb4⟩
          have hB4 := bt hB3 hb4
          have hO5 := hO4.keep hb4
          have hI5 := hI4.keep hb4
          go_wp2_with fail
          go_ret3
          exact ⟨⟨ps, at_, 4, A', c', HX.out, by rw [HK.out]; rfl, hO5.rd hI5⟩, hB4⟩
      · have hc2 := hT0 hs0
        subst hc2
        have HX := Lib.hid (HS0.out (by omega))
        rcases hv with rfl | ⟨l, rfl⟩
        · have HV : Hid (ErrF (.iface 92 (.int .i64 2)) 2) := .inr (.inl rfl)
          go_wp2_with fail
          refine (HA.out _ hB1 _ 2 HV.out).mono ?_
          rintro e w4 ⟨rfl, hb4⟩
          have hB4 := bt hB1 hb4
          have hO5 := hO1.keep hb4
          have hI5 := hI1.keep hb4
          go_wp2_with fail
          go_ret3
          exact ⟨⟨ps, at_, 2, A', c', HX.out, by rw [HK.out]; rfl, hO5.rd hI5⟩, hB4⟩
        · have HV : Hid (ErrF (.iface 76 (.agg #[.int .i64 l, .int .i64 2])) 2) := .inr (.inr ⟨l, rfl⟩)
          go_wp2_with fail
          refine (HA.out _ hB1 _ 2 HV.out).mono ?_
          rintro e w4 ⟨rfl, hb4⟩
          have hB4 := bt hB1 hb4
          have hO5 := hO1.keep hb4
          have hI5 := hI1.keep hb4
          go_wp2_with fail
          go_ret3
          exact ⟨⟨ps, at_, 2, A', c', HX.out, by rw [HK.out]; rfl, hO5.rd hI5⟩, hB4⟩
    · have i1 : ¬ (at_ : Int) < (n : Int) := by omega
      have HX : Hid (ScanR b ps at_ 0) := by
        show ScanR _ _ _ _
        have h := hS.out [] 0 0 (by rw [List.drop_eq_nil_of_le (by rw [HN.out]; omega)]; exact .done)
        rwa [List.append_nil] at h
      go_wp2_with fail
      go_ret3
      exact ⟨⟨ps, at_, 0, HX.out, A', ⟨c', by rw [HK.out]; rfl⟩, hO.rd hI⟩, hB⟩
end Go.Proofs.YtokkmofcijfmiaaDoor

namespace Go.Proofs.YtokkmofcijfmiaaDoor
open Go.RowKit

theorem frameC : FrameC where
  sumC := fun A n c b w hL hn hm hr => (sum_any A n c b w hL hn hr (by omega)).mono fun _ _ ⟨he, hw⟩ => ⟨he, by subst hw; exact Below.refl _ _⟩
  sealC := fun k A n c b w hL hn hm hr => seal_any k A n c b w hL hn hm hr
  fullC := fun k A n c _ w hL _ hm hm2 _ => full_any k A n c w hL hm hm2
  openC := fun A n c b w hL hn hc hm hr => open_any A n c b w hL hn hc hm hr
  scanC := fun A n c b w hL hn hc hm hr => scan_any A n c b w hL hn hc hm hr
end Go.Proofs.YtokkmofcijfmiaaDoor

namespace Go.Proofs.YtokkmofcijfmiaaDoor
open Go.RowKit

theorem u8_inc (x : UInt8) : IntKind.u8.wrap ((x.toNat : Int) + 1) = ((x + 1 : UInt8).toNat : Int) := by
  rw [IntKind.wrap_u8, UInt8.toNat_add]
  have := x.toNat_lt
  show _ = (((x.toNat + 1) % 256 : Nat) : Int)
  omega

set_option maxRecDepth 100000 in
set_option maxHeartbeats 4000000 in
theorem lawFrameSeals_any (hC : FrameC) (k : UInt8) (A : Option Addr) (n c : Nat) (b : List UInt8) (w : World) (hL : LaidF w) (hn : b.length = n) (hr : RdB w.heap.size w A b) :
    Calls Tryd.prog 4 #[.int .u8 (k.toNat : Int), .slice A n c] w fun e w' => e = .returned (.bool true) ∧ Below w.heap.size w w' := by
  have HN := Lib.hid hn
  clear hn
  by_cases h : n ≤ 3000
  · have g1 : (n : Int) ≤ 3000 := by omega
    go_enter Tryd.func4, Tryd.ntmps4
    go_wp2_with fail
    refine (frameAwake hC w hL).mono ?_
    rintro e w1 ⟨rfl, B1⟩
    go_wp2_with fail
    refine (hC.sealC k A n c b w1 (hL.keep B1) HN.out (by omega) ((hr.keep B1 (Nat.le_refl _)).more B1.size)).mono ?_
    rintro e w2 ⟨⟨A2, c2, rfl, hO2⟩, hb2⟩
    have B2 := bt B1 hb2
    go_wp2_with fail
    refine (refSeal_any k A n c b w2 HN.out (hr.keep B2 (Nat.le_refl _)) B2.size (by omega)).mono ?_
    rintro e w3 ⟨⟨A3, c3, rfl, hO3⟩, hb3⟩
    have B3 := bt B2 hb3
    have hO23 := hO2.keep hb3
    have hf := hO23.rd
    have hcap := hO23.cap.1
    have hfl := hO23.len
    have cv1 := conv_rd w3 A2 (n + 9) c2 _ hfl hf
    have cv2 := conv_rd w3 A3 (n + 9) c3 _ hO3.len hO3.rd
    clear hO2 hO3 hO23 hb2 hb3
    have HOP := Lib.hid (open_seal k b (by rw [HN.out]; omega))
    generalize sealL k b = f at hf hfl cv1 cv2 HOP
    have HF := Lib.hid hf
    have HFL := Lib.hid hfl
    clear hf hfl
    go_wp2_with fail
    clear cv1 cv2
    go_loopw [46] (fun i wr => ∃ j : Nat, j ≤ 2 ∧ i = .int .i64 j ∧ Below w3.heap.size w3 wr) (fun i _ => 2 - (intOf i).toNat)
    case atStart => exact ⟨0, by omega, rfl, Below.refl _ _⟩
    case round =>
      obtain ⟨j, hj, rfl, hB⟩ := hrel
      have BW := bt B3 hB
      by_cases hjt : j < 2
      · have j1 : (j : Int) < 2 := by omega
        have hop := hC.openC A2 (n + 9) c2 f wr (hL.keep BW) HFL.out hcap (by omega) ((HF.out.keep hB (Nat.le_refl _)).more hB.size)
        rw [HOP.out] at hop
        have HOp := Lib.hid hop
        clear hop
        go_wp2_with fail
        refine HOp.out.mono ?_
        rintro e w4 ⟨⟨A4, c4, rfl, hO4⟩, hb4⟩
        clear HOp
        simp only at hO4 ⊢
        rw [HN.out] at hO4 ⊢
        go_wp2_with fail
        have hP := blk_new w4 #[.int .u8 (k.toNat : Int), .slice A4 n c4] 38
        have hO5 := hO4.keep (b0 w4 (.cells #[.int .u8 (k.toNat : Int), .slice A4 n c4] 38))
        have hb5 := bt hb4 (b0 w4 (.cells #[.int .u8 (k.toNat : Int), .slice A4 n c4] 38))
        have hz4 := hb4.size
        have hg4 : ∀ g, A4 = some ⟨g, 0, none⟩ → 0 < n → g < w4.heap.size := fun g e h => by
          obtain ⟨g', e', _, hl⟩ := hO4.form h
          rw [e] at e'
          injection e' with e'
          injection e' with e'
          omega
        generalize w4.alloc (.cells #[.int .u8 (k.toNat : Int), .slice A4 n c4] 38) = W at hP hO5 hb5 ⊢
        generalize hpb : w4.heap.size = pb at hP hz4 hg4 ⊢
        clear hO4 hpb
        have p0 : W.cell? ⟨pb, 0, none⟩ = some (.int .u8 (k.toNat : Int)) := hP.cell 0
        have p1 : W.cell? ⟨pb, 1, none⟩ = some (.slice A4 n c4) := hP.cell 1
        have cv1 := conv_rd W A4 n c4 b HN.out hO5.rd
        have cv2 := conv_rd W A n c b HN.out (hr.keep (bt BW hb5) (Nat.le_refl _))
        go_wp2_with fail
        rw [cv1]
        go_wp2_with fail
        clear p0 p1 cv1 cv2
        go_loopw [72] (fun i wx => ∃ (q : Nat) (l : List UInt8), q ≤ n ∧ i = .int .i64 q ∧ Blk wx pb #[.int .u8 (k.toNat : Int), .slice A4 n c4] 38 ∧ OwnB wr.heap.size wx A4 n c4 l ∧ Below wr.heap.size wr wx) (fun i _ => n - (intOf i).toNat)
        case atStart => exact ⟨0, b, Nat.zero_le _, rfl, hP, hO5, hb5⟩
        case round =>
          clear hP hO5 hb5
          obtain ⟨q, l, hq, rfl, hP, hO, hX⟩ := hrel
          by_cases hqt : q < n
          · have q1 : (0 : Int) ≤ (q : Int) := by omega
            have q2 : (q : Int) < (n : Int) := by omega
            obtain ⟨g, rfl, hgb, hgl⟩ := hO.form (by omega)
            have hgp : g < pb := hg4 g rfl (by omega)
            obtain ⟨x, hx⟩ : ∃ x, l[q]? = some x := ⟨_, List.getElem?_eq_getElem (show q < l.length by have := hO.len; omega)⟩
            have c0 := hO.cellAt hx
            have f0 := hO.free q
            have p1 : _ = some (Value.slice (some ⟨g, 0, none⟩) n c4) := hP.cell 1
            have hw := u8_inc x
            have hO' := hO.set q (x + 1)
            have hP' := hP.other (show pb ≠ g by omega) q (.int .u8 ((x + 1 : UInt8).toNat : Int))
            have hX' := hX.setCell (p := ⟨g, q, none⟩) hgb (.int .u8 ((x + 1 : UInt8).toNat : Int))
            have HH := Lib.hid (And.intro hO' (And.intro hP' hX'))
            clear hO' hP' hX' hx
            generalize (((x + 1 : UInt8).toNat : Nat) : Int) = y at hw HH
            go_wp2_with fail
            go_roundw
            case rel => exact ⟨q + 1, _, by omega, by go_num, HH.out.2.1, HH.out.1, HH.out.2.2⟩
            case measure => simp [intOf]; omega
          · have hqn : ¬ (q : Int) < (n : Int) := by omega
            go_wp2_with fail
            go_roundw
            case rel => exact ⟨j + 1, by omega, by go_num, bt hB hX⟩
            case measure => simp [intOf]; omega
      · have j1 : ¬ (j : Int) < 2 := by omega
        go_wp2_with fail
        go_ret
        exact ⟨rfl, BW⟩
  · have g1 : (3000 : Int) < (n : Int) := by omega
    go_enter Tryd.func4, Tryd.ntmps4
    go_wp2_with fail
    refine (frameAwake hC w hL).mono ?_
    rintro e w1 ⟨rfl, B1⟩
    go_wp2_with fail
    refine (frameAwake hC w1 (hL.keep B1)).mono ?_
    rintro e w2 ⟨rfl, hb2⟩
    go_wp2_with fail
    go_ret
    exact ⟨rfl, bt B1 hb2⟩
end Go.Proofs.YtokkmofcijfmiaaDoor

namespace Go.Proofs.YtokkmofcijfmiaaDoor
open Go.RowKit

theorem lawFrameSeals_all (k : UInt8) (A : Option Addr) (n c : Nat) (l : List UInt8) (w : World) (hn : l.length = n) (hr : RdB w.heap.size w A l) (_ : n ≤ c) (_ : c ≤ maxLen) (hL : LaidF w) :
    Calls Tryd.prog 4 #[.int .u8 (k.toNat : Int), .slice A n c] w fun e w' => e = .returned (.bool true) ∧ Below w.heap.size w w' :=
  lawFrameSeals_any frameC k A n c l w hL hn hr
end Go.Proofs.YtokkmofcijfmiaaDoor

namespace Go.Proofs.YtokkmofcijfmiaaDoor
open Go.RowKit

/-- What each row of this seat lists. -/
abbrev laidL : List (String × DataW Unit) := [("errors.errorType", Rows.laid_errors_errorType), ("spinney/frame.fourBits", Rows.laid_spinney_frame_fourBits)]
theorem gT : Tryd.prog.globalNamed "errors.errorType" = some 1 := by kernel_rfl
theorem gS : Tryd.prog.globalNamed "spinney/frame.fourBits" = some 0 := by kernel_rfl
theorem tyS : (Tryd.prog.globals[0]?).map (·.type) = some 91 := by kernel_rfl
theorem rtR : (Tryd.prog.cutTypes.find? (·.1 == "internal/reflectlite.rtype")).map (·.2) = some 124 := by kernel_rfl
theorem oneRow : ((List.range 194).filter fun t => Tryd.prog.rowNamed t [101, 114, 114, 111, 114]) = [65] := by kernel_rfl
theorem sizeT : Tryd.prog.types.size = 194 := by kernel_rfl
theorem cellsU : Tryd.prog.cellsOf 72 = 1 := by kernel_rfl
theorem cellsT : Tryd.prog.cellsOf 91 = 16 := by kernel_rfl
theorem tabE : (Rows.laid_spinney_frame_fourBits : DataW Unit) = Go.Lib.tabData .u32 (nibT.toList.map fun (z : Nat) => (z : Int)) := rfl
/-- What the condition gives the walks. -/
theorem laidF_of {W : World} (h : laidMetH Tryd.prog laidL W) : LaidF W := by
  have h' : laidMet Tryd.prog [("spinney/frame.fourBits", Rows.laid_spinney_frame_fourBits)] W ∧ handlesMet Tryd.prog [("errors.errorType", Rows.laid_errors_errorType)] W := h
  obtain ⟨name, u, ty, e1, e2, e3, e4, e5⟩ := h'.2 _ (List.mem_singleton.2 rfl)
  have en : name = [101, 114, 114, 111, 114] := (Option.some.inj e1).symm
  subst en
  obtain rfl := Option.some.inj (rtR.symm.trans e2)
  have hm : ty ∈ (List.range 194).filter fun t => Tryd.prog.rowNamed t [101, 114, 114, 111, 114] := List.mem_filter.2 ⟨List.mem_range.2 (by rw [← sizeT]; exact e3), e4⟩
  rw [oneRow] at hm
  obtain rfl := List.mem_singleton.1 hm
  have hh : typeHandle Tryd.prog 65 = .pointer (some ⟨5, 65, none⟩) := by kernel_rfl
  rw [hh] at e5
  refine ⟨fun i hi => ?_, by simpa using World.var?_cell gT e5 0⟩
  obtain ⟨ps, ⟨g0, t0, cs0, f0, p0, q0, hg0, ht0, hv0, hd0, _, _⟩, _, _⟩ := h'.1
  obtain rfl := Option.some.inj (gS.symm.trans hg0)
  obtain rfl := Option.some.inj (tyS.symm.trans ht0)
  rw [tabE] at hd0
  have hcs := Go.Lib.cells_of_tab Tryd.underlying91 Tryd.underlying72 cellsU cellsT hd0
  have hc := World.var?_cell gS hv0 i
  rw [hc, ← Array.getElem?_toList, hcs, List.getElem?_map, List.getElem?_map, Array.getElem?_toList, nibT_at hi]
  rfl
/-- A world that meets it. -/
theorem door_met (os : Os) (args : Array Value) : laidMetH Tryd.prog laidL ((World.doorLaid Tryd.prog 400 os).forCall (fun _ _ => 0) ⟨#[], args, []⟩).memory :=
  laidMetH_of_parts (laidMet_of_run' 8 (by kernel_rfl) (by kernel_rfl)) (by kernel_rfl)
end Go.Proofs.YtokkmofcijfmiaaDoor
