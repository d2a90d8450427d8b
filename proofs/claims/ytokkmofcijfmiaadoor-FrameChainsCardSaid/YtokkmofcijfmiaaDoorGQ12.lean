/-
  WHAT IS PROVED: plain facts: frames that were sealed, one behind the other, are scanned piece by piece; a torn one behind them is told. No program is spoken of. · the law of FrameChains answers true for all rows of bytes and every number, if package frame's calls answer as FrameC says. Conditions: those typed in each theorem. · the law of the statement FrameChains answers true, over the code itself. Conditions: the package variables that the code reads hold what the program's text lays (LaidF).
-/
import Derived.Test.YtokkmofcijfmiaaDoorGQ7
import Derived.Test.YtokkmofcijfmiaaDoorGQ1
import Derived.Test.YtokkmofcijfmiaaDoorGQ3
import Derived.BigQuiet
import Derived.Deep.QuietTactic
import Derived.Test.YtokkmofcijfmiaaDoorGQ8
namespace Go.Proofs.YtokkmofcijfmiaaDoor
open Go.RowKit

/-- Frames one behind the other, their kinds counted from i. -/
def joinF : Nat → List (List UInt8) → List UInt8
  | _, [] => []
  | i, x :: t => sealL (UInt8.ofNat i) x ++ joinF (i + 1) t
def pcsF : Nat → List (List UInt8) → List Pc
  | _, [] => []
  | i, x :: t => (UInt8.ofNat i, x) :: pcsF (i + 1) t
theorem joinF_app : ∀ (l l2 : List (List UInt8)) (i : Nat), joinF i (l ++ l2) = joinF i l ++ joinF (i + l.length) l2
  | [], l2, i => rfl
  | x :: t, l2, i => by
    show sealL (UInt8.ofNat i) x ++ joinF (i + 1) (t ++ l2) = (sealL (UInt8.ofNat i) x ++ joinF (i + 1) t) ++ joinF (i + (t.length + 1)) l2
    rw [joinF_app t l2 (i + 1), List.append_assoc, show i + 1 + t.length = i + (t.length + 1) by omega]
theorem joinF_snoc (l : List (List UInt8)) (x : List UInt8) : joinF 0 (l ++ [x]) = joinF 0 l ++ sealL (UInt8.ofNat l.length) x := by
  rw [joinF_app, Nat.zero_add]
  show joinF 0 l ++ (sealL (UInt8.ofNat l.length) x ++ []) = _
  rw [List.append_nil]
theorem pcsF_len : ∀ (l : List (List UInt8)) (i : Nat), (pcsF i l).length = l.length
  | [], _ => rfl
  | x :: t, i => by
    show (pcsF (i + 1) t).length + 1 = t.length + 1
    rw [pcsF_len t (i + 1)]
theorem pcsF_get : ∀ (l : List (List UInt8)) (i k : Nat) (x : List UInt8), l[k]? = some x → (pcsF i l)[k]? = some (UInt8.ofNat (i + k), x)
  | [], i, k, x, h => by simp at h
  | y :: t, i, 0, x, h => by
    have e : y = x := by simpa using h
    subst e
    rfl
  | y :: t, i, k + 1, x, h => by
    have h2 : t[k]? = some x := by simpa using h
    have := pcsF_get t (i + 1) k x h2
    show (pcsF (i + 1) t)[k]? = _
    rw [this, show i + 1 + k = i + (k + 1) by omega]
theorem scan_app : ∀ (l : List (List UInt8)) (i : Nat) (r : List UInt8) (l' : List Pc) (m code : Nat), (∀ x, x ∈ l → x.length ≤ 100000) → ScanR r l' m code → ScanR (joinF i l ++ r) (pcsF i l ++ l') ((joinF i l).length + m) code
  | [], i, r, l', m, code, _, h => by
    show ScanR r l' (0 + m) code
    rw [Nat.zero_add]
    exact h
  | x :: t, i, r, l', m, code, hl, h => by
    have ih := scan_app t (i + 1) r l' m code (fun y hy => hl y (List.mem_cons_of_mem _ hy)) h
    have hx := hl x List.mem_cons_self
    have ht := take_seal (UInt8.ofNat i) x (joinF (i + 1) t ++ r) hx
    have hlen := sealL_len (UInt8.ofNat i) x
    have hd : (sealL (UInt8.ofNat i) x ++ (joinF (i + 1) t ++ r)).drop (x.length + 9) = joinF (i + 1) t ++ r := by
      rw [show x.length + 9 = (sealL (UInt8.ofNat i) x).length by omega, List.drop_left]
    have hne : sealL (UInt8.ofNat i) x ++ (joinF (i + 1) t ++ r) ≠ [] := by
      intro e
      have := congrArg List.length e
      rw [List.length_append, hlen] at this
      simp at this
    have hs := ScanR.more (b := sealL (UInt8.ofNat i) x ++ (joinF (i + 1) t ++ r)) (l := pcsF (i + 1) t ++ l') (m := (joinF (i + 1) t).length + m) (code := code) hne (by rw [ht]) (by rw [ht]; simp only; rw [hd]; exact ih)
    rw [ht] at hs
    simp only at hs
    show ScanR ((sealL (UInt8.ofNat i) x ++ joinF (i + 1) t) ++ r) ((UInt8.ofNat i, x) :: (pcsF (i + 1) t ++ l')) ((sealL (UInt8.ofNat i) x ++ joinF (i + 1) t).length + m) code
    rw [List.append_assoc, List.length_append, hlen, show 9 + x.length + (joinF (i + 1) t).length + m = x.length + 9 + ((joinF (i + 1) t).length + m) by omega]
    exact hs
theorem byteAt_take' {x : List UInt8} {m i : Nat} (h : i < m) : byteAt (x.take m) i = byteAt x i := by
  unfold byteAt
  rw [List.getD_eq_getElem?_getD, List.getD_eq_getElem?_getD, List.getElem?_take, if_pos h]
/-- A torn frame. -/
theorem torn (k : UInt8) (x : List UInt8) (m : Nat) (hx : x.length ≤ 100000) (h0 : 0 < m) (hm : m < x.length + 9) : ScanR ((sealL k x).take m) [] 0 2 := by
  have hl : ((sealL k x).take m).length = m := by
    rw [List.length_take, sealL_len]
    omega
  have hc : (takeF ((sealL k x).take m)).2.2.2 = 2 := by
    unfold takeF
    by_cases h9 : ((sealL k x).take m).length < 9 ∨ byteAt ((sealL k x).take m) 0 ≠ 229
    · rw [if_pos h9]
    · rw [if_neg h9, if_pos]
      have hm9 : 9 ≤ m := by omega
      have e : lenF ((sealL k x).take m) = x.length := by
        have h1 := lenF_seal k x [] hx
        rw [List.append_nil] at h1
        unfold lenF at h1 ⊢
        rw [byteAt_take' (by omega), byteAt_take' (by omega), byteAt_take' (by omega)]
        exact h1
      rw [e, hl]
      omega
  have hne : (sealL k x).take m ≠ [] := by
    intro e
    rw [e] at hl
    simp at hl
    omega
  have h := ScanR.stop hne (by rw [hc]; decide)
  rw [hc] at h
  exact h
/-- All of them. -/
theorem scan_all (l : List (List UInt8)) (hl : ∀ x, x ∈ l → x.length ≤ 100000) : ScanR (joinF 0 l) (pcsF 0 l) (joinF 0 l).length 0 := by
  have h := scan_app l 0 [] [] 0 0 hl .done
  rwa [List.append_nil, List.append_nil, Nat.add_zero] at h
/-- The last one torn. -/
theorem scan_torn (l : List (List UInt8)) (x : List UInt8) (k : Nat) (hl : ∀ y, y ∈ l ++ [x] → y.length ≤ 100000) (h1 : 1 ≤ k) (hk : k ≤ x.length + 8) :
    ScanR ((joinF 0 (l ++ [x])).take ((joinF 0 (l ++ [x])).length - k)) (pcsF 0 l) ((joinF 0 (l ++ [x])).length - (x.length + 9)) 2 := by
  have hx : x.length ≤ 100000 := hl x (by simp)
  have hlen := sealL_len (UInt8.ofNat l.length) x
  rw [joinF_snoc, List.length_append, hlen]
  have e : (joinF 0 l ++ sealL (UInt8.ofNat l.length) x).take ((joinF 0 l).length + (9 + x.length) - k) = joinF 0 l ++ (sealL (UInt8.ofNat l.length) x).take (x.length + 9 - k) := by
    rw [List.take_append, List.take_of_length_le (by omega)]
    congr 2
    omega
  rw [e, show (joinF 0 l).length + (9 + x.length) - (x.length + 9) = (joinF 0 l).length + 0 by omega]
  have h := scan_app l 0 ((sealL (UInt8.ofNat l.length) x).take (x.length + 9 - k)) [] 0 2 (fun y hy => hl y (List.mem_append_left _ hy)) (torn _ x _ hx (by omega) (by omega))
  rwa [List.append_nil] at h
end Go.Proofs.YtokkmofcijfmiaaDoor

namespace Go.Proofs.YtokkmofcijfmiaaDoor
open Go.RowKit

theorem u8_small {i : Nat} (h : i < 256) : ((UInt8.ofNat i).toNat : Int) = (i : Int) := of_small h
theorem take_succ_get {l : List (List UInt8)} {i : Nat} {x : List UInt8} (h : l[i]? = some x) : l.take (i + 1) = l.take i ++ [x] := by
  obtain ⟨hi, hx⟩ := List.getElem?_eq_some_iff.1 h
  rw [List.take_succ_eq_append_getElem hi, hx]

set_option maxRecDepth 100000 in
set_option maxHeartbeats 8000000 in
theorem lawFrameChains_good (hC : FrameC) (A : Option Addr) (n c : Nat) (l : List (List UInt8)) (t : Int) (w : World) (hL : LaidF w) (hn : l.length = n) (hr : RdBB w.heap.size w A l) (h : n ≤ 20) (_ht : -9223372036854775808 ≤ t ∧ t ≤ 9223372036854775807) :
    Calls Tryd.prog 8 #[.slice A n c, .int .i64 t] w fun e w' => e = .returned (.bool true) ∧ Below w.heap.size w w' := by
  obtain ⟨i0, hi0, hz0, hz1, hz2⟩ := info_parts byt_info
  have HN := Lib.hid hn
  have HR := Lib.hid hr
  have g1 : (n : Int) ≤ 20 := by omega
  clear hn hr
  go_enter Tryd.func8, Tryd.ntmps8
  go_wp2_with fail
  refine (frameAwake hC w hL).mono ?_
  rintro e w1 ⟨rfl, B1⟩
  go_wp2_with fail
  go_loopw [5, 29] (fun s u wr => ∃ (i k c' : Nat) (A' : Option Addr), s = .slice A' k c' ∧ u = .int .i64 i ∧ i ≤ n ∧ k ≤ i * 509 ∧ OwnB w.heap.size wr A' k c' (joinF 0 (l.take i)) ∧ Hid (∀ x, x ∈ l.take i → x.length ≤ 500) ∧ Below w.heap.size w wr) (fun _ u _ => n - (intOf u).toNat)
  case atStart => exact ⟨0, 0, 0, none, rfl, rfl, Nat.zero_le _, Nat.zero_le _, OwnB.nil _ _, fun x hx => by simp at hx, B1⟩
  case round =>
    obtain ⟨i, k, c', A', rfl, rfl, hin, hk, hO, hS, hB⟩ := hrel
    by_cases hlt : i < n
    · have i1 : (i : Int) < (n : Int) := by omega
      have i2 : (0 : Int) ≤ (i : Int) := by omega
      obtain ⟨x, hx⟩ : ∃ x, l[i]? = some x := ⟨_, List.getElem?_eq_getElem (by rw [HN.out]; exact hlt)⟩
      obtain ⟨ad, Ax, cx, rfl, hbl, q0, hrx, _⟩ := HR.out i x hx
      have k0 := (hB.cell (p := ad.add i) (by rw [add_block]; exact hbl)).trans q0
      obtain ⟨m, hm⟩ : ∃ m, x.length = m := ⟨_, rfl⟩
      have HM := Lib.hid hm
      rw [hm] at k0
      have HT := Lib.hid (take_succ_get hx)
      by_cases hbig : 500 < m
      · have g2 : (500 : Int) < (m : Int) := by omega
        clear HT HM hm
        go_wp2_with fail
        go_ret
        exact ⟨rfl, hB⟩
      · have g2 : ¬ (500 : Int) < (m : Int) := by omega
        have hsc := hC.sealC (UInt8.ofNat i) Ax m cx x wr (hL.keep hB) hm (by omega) ((hrx.keep hB (Nat.le_refl _)).more hB.size)
        rw [u8_small (by omega)] at hsc
        have HSC := Lib.hid hsc
        have hsl := Lib.hid (sealL_len (UInt8.ofNat i) x)
        clear hsc q0 hm
        go_wp2_with fail
        refine HSC.out.mono ?_
        rintro e w2 ⟨⟨A2, c2, rfl, hO2⟩, hb2⟩
        have B2 := bt hB hb2
        have hO3 := hO.keep hb2
        have z2 := B2.size
        have hO2l := hO2.len
        have hO2r := hO2.rd
        clear HSC hb2 hO2 hO
        go_wp2_with (at_builtin; refine wpList_apB (base := w.heap.size) (n := k) (m := m + 9) (l := joinF 0 (l.take i)) (l2 := sealL (UInt8.ofNat i) x) (by rfl) _ _ (by rfl) Tryd.underlying34 Tryd.underlying34 hi0 hz0 hz1 hz2 (by rfl) (by rfl) hO3 hO2r hO2l (k + m + 9) (by omega) (by omega) (by omega) ?_; intro A3 c3 w3 hO4 hb3 hg3)
        have B3 := B2.trans hb3
        have HO4 : Hid (OwnB w.heap.size w3 A3 (k + m + 9) c3 (joinF 0 (l.take (i + 1)))) := by
          show OwnB _ _ _ _ _ _
          rw [HT.out, joinF_snoc, List.length_take, HN.out, Nat.min_eq_left (by omega)]
          exact hO4
        have HS2 : Hid (∀ y, y ∈ l.take (i + 1) → y.length ≤ 500) := fun y hy => by
          rw [HT.out] at hy
          rcases List.mem_append.1 hy with h | h
          · exact hS.out y h
          · rw [List.mem_singleton.1 h, HM.out]
            omega
        go_roundw
        case rel => exact ⟨i + 1, k + m + 9, c3, A3, rfl, by go_num, by omega, by omega, HO4.out, HS2, B3⟩
        case measure => simp [intOf]; omega
    · have i1 : ¬ (i : Int) < (n : Int) := by omega
      have e : i = n := by omega
      subst e
      have hall : Hid (∀ x, x ∈ l → x.length ≤ 500) := fun x hx => hS.out x (by rw [List.take_of_length_le (by rw [HN.out]; exact Nat.le_refl _)]; exact hx)
      rw [List.take_of_length_le (by rw [HN.out]; exact Nat.le_refl _)] at hO
      clear hS i1 hin
      have hlen := hO.len
      have hcap := hO.cap.1
      have hrd := hO.rd
      have hkb : k ≤ 10180 := by omega
      have HSC := Lib.hid (hC.scanC A' k c' (joinF 0 l) wr (hL.keep hB) hlen hcap (by omega) hrd)
      go_wp2_with fail
      refine HSC.out.mono ?_
      rintro e w2 ⟨⟨ps, m, code, A2, c2, hSc, rfl, hP⟩, hb2⟩
      have B2 := bt hB hb2
      have hO2 := hO.keep hb2
      obtain ⟨rfl, rfl, rfl⟩ := hSc.det (scan_all l fun x hx => Nat.le_trans (hall.out x hx) (by omega))
      have HPL : Hid ((pcsF 0 l).length = i) := by show _ = _; rw [pcsF_len, HN.out]
      rw [hlen, HPL.out]
      have HP := Lib.hid hP
      have HLE := Lib.hid hlen
      clear HSC hSc hP hb2 hO hrd hlen HPL
      go_wp2_with fail
      go_loopw [74] (fun u wx => ∃ j : Nat, j ≤ i ∧ u = .int .i64 j ∧ Below w2.heap.size w2 wx) (fun u _ => i - (intOf u).toNat)
      case atStart => exact ⟨0, Nat.zero_le _, rfl, Below.refl _ _⟩
      case round =>
        obtain ⟨j, hj, rfl, hX⟩ := hrel
        by_cases hjt : j < i
        · have j1 : (j : Int) < (i : Int) := by omega
          have j2 : (0 : Int) ≤ (j : Int) := by omega
          obtain ⟨x, hx⟩ : ∃ x, l[j]? = some x := ⟨_, List.getElem?_eq_getElem (by rw [HN.out]; exact hjt)⟩
          obtain ⟨ad, Ax, cx, rfl, hbl, q0, hrx, _⟩ := HR.out j x hx
          have hpx := pcsF_get l 0 j x hx
          rw [Nat.zero_add] at hpx
          obtain ⟨ad2, A4, c4, rfl, hbl2, p0, p1, hr4⟩ := HP.out j (UInt8.ofNat j, x) hpx
          rw [u8_small (by omega)] at p0
          obtain ⟨m, hm⟩ : ∃ m, x.length = m := ⟨_, rfl⟩
          have HM := Lib.hid hm
          simp only at p1 hr4
          rw [hm] at q0 p1
          have hW := B2.trans (hX.mono B2.size)
          have k0 := (hW.cell (p := ad.add j) (by rw [add_block]; exact hbl)).trans q0
          have k1 := (hX.cell (p := ad2.add (j * 2)) (by rw [add_block]; exact hbl2)).trans p0
          have k2 := (hX.cell (p := ⟨(ad2.add (j * 2)).block, (ad2.add (j * 2)).off + 1, none⟩) (by show (ad2.add (j * 2)).block < _; rw [add_block]; exact hbl2)).trans p1
          have cv1 := fun q => conv_rd (wr.drewN q) A4 m c4 x HM.out ((hr4.keep hX (Nat.le_refl _)).draws q)
          have cv2 := fun q => conv_rd (wr.drewN q) Ax m cx x HM.out ((hrx.keep hW (Nat.le_refl _)).draws q)
          have uw : IntKind.u8.wrap (j : Int) = (j : Int) := by rw [IntKind.wrap_u8]; omega
          clear q0 p0 p1 hr4 hrx hm hpx
          go_wp2_with fail
          go_quiet (fail)
          go_wp2_with fail
          go_roundw
          case rel => exact ⟨j + 1, by omega, by go_num, hX.os, hX.tape, hX.output, hX.size, hX.block⟩
          case measure => simp [intOf]; omega
        · have j1 : ¬ (j : Int) < (i : Int) := by omega
          have hW := B2.trans (hX.mono B2.size)
          by_cases h0 : i = 0
          · subst h0
            go_wp2_with fail
            go_ret
            exact ⟨rfl, hW⟩
          · have j2 : ((i : Int) == 0) = false := by rw [beq_eq_false_iff_ne]; omega
            have j3 : ¬ (i : Int) = 0 := by omega
            have j4 : (0 : Int) ≤ (i : Int) - 1 := by omega
            have j5 : (i : Int) - 1 < (i : Int) := by omega
            obtain ⟨ini, x, hlx⟩ : ∃ ini x, l = ini ++ [x] := ⟨_, _, (List.dropLast_concat_getLast (l := l) (by intro e; rw [e] at HN; exact h0 HN.out.symm)).symm⟩
            have hil : ini.length = i - 1 := by
              have := HN.out
              rw [hlx, List.length_append] at this
              simp at this
              omega
            have hx : l[i - 1]? = some x := by rw [hlx, ← hil]; simp
            obtain ⟨ad, Ax, cx, rfl, hbl, q0, hrx, _⟩ := HR.out (i - 1) x hx
            obtain ⟨m, hm⟩ : ∃ m, x.length = m := ⟨_, rfl⟩
            have hm5 : m ≤ 500 := by rw [← hm]; exact hall.out x (by rw [hlx]; simp)
            rw [hm] at q0
            have k0 := (hW.cell (p := ad.add (i - 1)) (by rw [add_block]; exact hbl)).trans q0
            have ti : ((i : Int) - 1).toNat = i - 1 := by omega
            obtain ⟨u, hu⟩ : ∃ u : Nat, IntKind.u64.wrap t = (u : Int) := ⟨(IntKind.u64.wrap t).toNat, (Int.toNat_of_nonneg (by rw [IntKind.wrap_u64]; omega)).symm⟩
            obtain ⟨q, hq⟩ : ∃ q : Nat, u % (m + 8) = q := ⟨_, rfl⟩
            have hql : q < m + 8 := by rw [← hq]; exact Nat.mod_lt _ (by omega)
            have hqq : ((u : Int) % (9 + (m : Int) - 1)) = (q : Int) := by
              rw [show (9 + (m : Int) - 1) = ((m + 8 : Nat) : Int) by omega, ← hq]
              exact (Int.natCast_emod _ _).symm
            have hjl : (joinF 0 l).length = (joinF 0 ini).length + (9 + m) := by
              rw [hlx, joinF_snoc, List.length_append, sealL_len, hm]
            rw [HLE.out] at hjl
            have htorn := scan_torn ini x (q + 1) (fun y hy => Nat.le_trans (hall.out y (by rw [hlx]; exact hy)) (by omega)) (by omega) (by rw [hm]; omega)
            rw [← hlx, HLE.out, hm] at htorn
            have HTO := Lib.hid htorn
            have q1 : ∀ W : World, (Instr.sliceAt 34 (.slice A' k c') none (some (.int .i64 ((k : Int) - ((q : Int) + 1)))) none).run Tryd.prog W = .ok (.slice A' (k - (q + 1)) c') W := fun W => run_cut0 W A' k c' (k - (q + 1)) _ (by omega) (by omega) hcap
            have hO9 := (hO2.keep (hX)).rd
            have HSC := Lib.hid (hC.scanC A' (k - (q + 1)) c' ((joinF 0 l).take (k - (q + 1))) wr (hL.keep hW) (by rw [List.length_take, HLE.out]; omega) (by omega) (by omega) (hO9.take _))
            have hpl : (pcsF 0 ini).length = i - 1 := by rw [pcsF_len, hil]
            have HPL := Lib.hid hpl
            have a1 : ((k - (m + 9) : Nat) : Int) = (k : Int) - (9 + (m : Int)) := by omega
            have a2 : ((i - 1 : Nat) : Int) = (i : Int) - 1 := by omega
            clear hq htorn hjl hlx hil hx hO9 hO2 hpl
            go_wp2_with fail
            refine HSC.out.mono ?_
            rintro e w5 ⟨⟨ps, m5, code, A5, c5, hSc, rfl, hP5⟩, hb5⟩
            have B5 := bt hW hb5
            obtain ⟨rfl, rfl, rfl⟩ := hSc.det HTO.out
            rw [HPL.out]
            clear HSC hSc hP5 hb5 HTO HPL
            go_wp2_with fail
            go_ret
            exact ⟨rfl, B5⟩

set_option maxRecDepth 100000 in
set_option maxHeartbeats 2000000 in
theorem lawFrameChains_any (hC : FrameC) (A : Option Addr) (n c : Nat) (l : List (List UInt8)) (t : Int) (w : World) (hL : LaidF w) (hn : l.length = n) (hr : RdBB w.heap.size w A l) (ht : -9223372036854775808 ≤ t ∧ t ≤ 9223372036854775807) :
    Calls Tryd.prog 8 #[.slice A n c, .int .i64 t] w fun e w' => e = .returned (.bool true) ∧ Below w.heap.size w w' := by
  by_cases h : n ≤ 20
  · exact lawFrameChains_good hC A n c l t w hL hn hr h ht
  · have g1 : (20 : Int) < (n : Int) := by omega
    clear hn
    go_enter Tryd.func8, Tryd.ntmps8
    go_wp2_with fail
    refine (frameAwake hC w hL).mono ?_
    rintro e w1 ⟨rfl, B1⟩
    go_wp2_with fail
    refine (frameAwake hC w1 (hL.keep B1)).mono ?_
    rintro e w2 ⟨rfl, hb2⟩
    go_wp2_with fail
    go_ret
    exact ⟨rfl, bt B1 hb2⟩
end Go.Proofs.YtokkmofcijfmiaaDoor

namespace Go.Proofs.YtokkmofcijfmiaaDoor
open Go.RowKit

theorem lawFrameChains_all (A : Option Addr) (n c : Nat) (l : List (List UInt8)) (t : Int) (w : World) (hn : l.length = n) (hr : RdBB w.heap.size w A l) (_ : n ≤ maxLen) (ht : -9223372036854775808 ≤ t ∧ t ≤ 9223372036854775807) (hL : LaidF w) :
    Calls Tryd.prog 8 #[.slice A n c, .int .i64 t] w fun e w' => e = .returned (.bool true) ∧ Below w.heap.size w w' :=
  lawFrameChains_any frameC A n c l t w hL hn hr ht
end Go.Proofs.YtokkmofcijfmiaaDoor
