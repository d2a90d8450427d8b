/-
  WHAT IS PROVED: plain facts: a frame of which one byte is another one isn't opened. · the law of FrameTurned answers true for every kind, all bytes and every bit, if package frame's calls answer as FrameC says. Conditions: those typed in the theorem. · the law of the statement FrameTurned answers true, over the code itself. Conditions: the package variables that the code reads hold what the program's text lays (LaidF).
-/
import Derived.Test.YtokkmofcijfmiaaDoorGQ7
import Derived.Test.YtokkmofcijfmiaaDoorGQ3
import Derived.Test.YtokkmofcijfmiaaDoorGQ2
import Derived.Test.YtokkmofcijfmiaaDoorGQ8
namespace Go.Proofs.YtokkmofcijfmiaaDoor
open Go.RowKit

theorem ofNat_inj {x y : Nat} (hx : x < 256) (hy : y < 256) (h : UInt8.ofNat x = UInt8.ofNat y) : x = y := by
  have := congrArg UInt8.toNat h
  rw [UInt8.toNat_ofNat', UInt8.toNat_ofNat'] at this
  omega
theorem fourB_inj {c d : Nat} (hc : c < 4294967296) (hd : d < 4294967296) (h : fourB c = fourB d) : c = d := by
  unfold fourB at h
  simp only [List.cons.injEq, and_true] at h
  obtain ⟨h1, h2, h3, h4⟩ := h
  have e1 := ofNat_inj (by omega) (by omega) h1
  have e2 := ofNat_inj (by omega) (by omega) h2
  have e3 := ofNat_inj (by omega) (by omega) h3
  have e4 := ofNat_inj (by omega) (by omega) h4
  omega
/-- What Open answers: a piece, or a wrong and nothing inside. -/
theorem open_ways (x : List UInt8) : (∃ k b, openF x = (k, b, 0)) ∨ ((openF x).2.1 = [] ∧ ((openF x).2.2 = 2 ∨ (openF x).2.2 = 4)) := by
  unfold openF
  split
  · exact Or.inr ⟨rfl, Or.inl rfl⟩
  · unfold takeF
    split
    · exact Or.inr ⟨rfl, Or.inl rfl⟩
    · split
      · exact Or.inr ⟨rfl, Or.inl rfl⟩
      · split
        · exact Or.inr ⟨rfl, Or.inr rfl⟩
        · exact Or.inl ⟨_, _, rfl⟩
theorem body_inj {k k' : UInt8} {b b' : List UInt8} (h : bodyL k b = bodyL k' b') : k = k' ∧ b = b' := by
  unfold bodyL at h
  simp only [List.cons_append, List.nil_append, List.cons.injEq] at h
  exact ⟨h.2.1, h.2.2.2.2.2⟩
/-- One byte is another one. -/
theorem open_turned {k : UInt8} {b : List UInt8} (_h : b.length ≤ 100000) {j : Nat} {c : UInt8} (hj : j < b.length + 9) (hc : (sealL k b)[j]? ≠ some c) :
    (openF ((sealL k b).set j c)).2.1 = [] ∧ ((openF ((sealL k b).set j c)).2.2 = 2 ∨ (openF ((sealL k b).set j c)).2.2 = 4) := by
  rcases open_ways ((sealL k b).set j c) with ⟨k', b', e⟩ | e
  · exfalso
    obtain ⟨hx, hl⟩ := open_is e
    have hlen : b'.length = b.length := by
      have := congrArg List.length hx
      rw [List.length_set, sealL_len, sealL_len] at this
      omega
    have hbl := bodyL_len k b
    have hbl' := bodyL_len k' b'
    unfold sealL at hx hc
    by_cases hjb : j < b.length + 5
    · rw [List.set_append_left _ _ (by omega)] at hx
      have h1 := List.append_inj_left hx (by rw [List.length_set]; omega)
      have h2 := List.append_inj_right hx (by rw [List.length_set]; omega)
      have h3 := fourB_inj (crcL_lt _) (crcL_lt _) h2
      rw [← h1] at h3
      rw [List.getElem?_append_left (by omega)] at hc
      have hjl : j < (bodyL k b).length := by omega
      have hd : bodyL k b = (bodyL k b).take j ++ (bodyL k b)[j] :: (bodyL k b).drop (j + 1) := by
        rw [← List.drop_eq_getElem_cons hjl, List.take_append_drop]
      have hs : (bodyL k b).set j c = (bodyL k b).take j ++ c :: (bodyL k b).drop (j + 1) := List.set_eq_take_append_cons_drop.trans (if_pos hjl)
      rw [hs] at h3
      rw [List.getElem?_eq_getElem hjl] at hc
      generalize (bodyL k b)[j] = old at hd hc
      have h4 : crcL ((bodyL k b).take j ++ old :: (bodyL k b).drop (j + 1)) = crcL ((bodyL k b).take j ++ c :: (bodyL k b).drop (j + 1)) := by
        rw [← hd]
        exact h3
      have h5 := crcL_one h4
      exact hc (by rw [h5])
    · rw [List.set_append_right _ _ (by omega)] at hx
      have h1 := List.append_inj_left hx (by omega)
      have h2 := List.append_inj_right hx (by omega)
      rw [← h1] at h2
      rw [List.getElem?_append_right (by omega)] at hc
      have hf : (fourB (crcL (bodyL k b))).length = 4 := rfl
      have h6 : ((fourB (crcL (bodyL k b))).set (j - (bodyL k b).length) c)[j - (bodyL k b).length]? = some c := by
        rw [List.getElem?_set_self (by omega)]
      rw [h2] at h6
      exact hc h6
  · exact e
end Go.Proofs.YtokkmofcijfmiaaDoor

namespace Go.Proofs.YtokkmofcijfmiaaDoor
open Go.RowKit

theorem byteAt_take {x : List UInt8} {m i : Nat} (h : i < m) : byteAt (x.take m) i = byteAt x i := by
  unfold byteAt
  rw [List.getD_eq_getElem?_getD, List.getD_eq_getElem?_getD, List.getElem?_take, if_pos h]
/-- With a byte fewer. -/
theorem open_less (k : UInt8) (b : List UInt8) (h : b.length ≤ 100000) : openF ((sealL k b).take (b.length + 8)) = (0, [], 2) := by
  have hl : ((sealL k b).take (b.length + 8)).length = b.length + 8 := by rw [List.length_take, sealL_len]; omega
  unfold openF
  rw [if_pos]
  refine Or.inr (Classical.byContradiction fun hne => ?_)
  obtain ⟨_, _, _, q4, _⟩ := takeF_size hne
  have e : lenF ((sealL k b).take (b.length + 8)) = b.length := by
    have h1 := lenF_seal k b [] h
    rw [List.append_nil] at h1
    unfold lenF at h1 ⊢
    rw [byteAt_take (by omega), byteAt_take (by omega), byteAt_take (by omega)]
    exact h1
  rw [e, hl] at q4
  omega

set_option maxRecDepth 100000 in
theorem flip8 : ∀ (r : Fin 8) (x : Fin 256), 0 ≤ bits .xor .u8 (x.val : Int) (2 ^ r.val % 256) ∧ bits .xor .u8 (x.val : Int) (2 ^ r.val % 256) < 256 ∧ bits .xor .u8 (x.val : Int) (2 ^ r.val % 256) ≠ (x.val : Int) := by decide +kernel
theorem flip_is (x : UInt8) {r : Nat} (h : r < 8) : ∃ y : UInt8, bits .xor .u8 (x.toNat : Int) (2 ^ r % 256) = (y.toNat : Int) ∧ y ≠ x := by
  obtain ⟨h1, h2, h3⟩ := flip8 ⟨r, h⟩ ⟨x.toNat, x.toNat_lt⟩
  simp only at h1 h2 h3
  refine ⟨UInt8.ofNat (bits .xor .u8 (x.toNat : Int) (2 ^ r % 256)).toNat, ?_, fun e => h3 ?_⟩
  · rw [UInt8.toNat_ofNat']
    omega
  · have := congrArg UInt8.toNat e
    rw [UInt8.toNat_ofNat'] at this
    omega

set_option maxRecDepth 100000 in
set_option maxHeartbeats 4000000 in
theorem lawFrameTurned_good (hC : FrameC) (k : UInt8) (A : Option Addr) (n c : Nat) (b : List UInt8) (t : Int) (w : World) (hL : LaidF w) (hn : b.length = n) (hr : RdB w.heap.size w A b) (h : n ≤ 2000) (_ht : -9223372036854775808 ≤ t ∧ t ≤ 9223372036854775807) :
    Calls Tryd.prog 7 #[.int .u8 (k.toNat : Int), .slice A n c, .int .i64 t] w fun e w' => e = .returned (.bool true) ∧ Below w.heap.size w w' := by
  obtain ⟨i0, hi0, hz0, hz1, hz2⟩ := info_parts byt_info
  have HN := Lib.hid hn
  clear hn
  have g1 : (n : Int) ≤ 2000 := by omega
  go_enter Tryd.func7, Tryd.ntmps7
  go_wp2_with fail
  refine (frameAwake hC w hL).mono ?_
  rintro e w1 ⟨rfl, B1⟩
  go_wp2_with fail
  refine (hC.sealC k A n c b w1 (hL.keep B1) HN.out (by omega) ((hr.keep B1 (Nat.le_refl _)).more B1.size)).mono ?_
  rintro e w2 ⟨⟨A2, c2, rfl, hO2⟩, hb2⟩
  have B2 := bt B1 hb2
  obtain ⟨g, rfl, hg1, hg2⟩ := hO2.form (by omega)
  have hcap := hO2.cap.1
  have hlit0 : OwnB w2.heap.size (w2.alloc (.cells #[] 5)) (some ⟨w2.heap.size, 0, none⟩) 0 0 [] := OwnB.lit w2 #[] [] rfl rfl (Nat.le_refl _) (Nat.zero_le _)
  have hrf := hO2.rd.keep (b0 w2 (.cells #[] 5)) (Nat.le_refl _)
  go_wp2_with first
    | (at_builtin; refine wpList_apB (base := w2.heap.size) (n := 0) (m := n + 9) (l := []) (l2 := sealL k b) (by rfl) _ _ (by rfl) Tryd.underlying34 Tryd.underlying34 hi0 hz0 hz1 hz2 (by rfl) (by rfl) hlit0 hrf hO2.len (n + 9) (by omega) (by omega) (by simp) ?_; intro A3 c3 w3 hO3 hb3 hg3; rw [List.nil_append] at hO3; have hB3 := (b0 w2 (.cells #[] 5)).trans hb3; have z3 := hB3.size; have hO3' := hO3.keep (b0 w3 (.cells #[.int .u8 0] 5)))
    | (at_builtin; refine wpList_apB (base := w2.heap.size) (n := n + 9) (m := 1) (l := sealL k b) (l2 := [0]) (by rfl) _ _ (by rfl) Tryd.underlying34 Tryd.underlying34 hi0 hz0 hz1 hz2 (by rfl) (by rfl) hO3' ((rdOneB w3 0 w3.heap.size rfl)) rfl (n + 10) (by omega) (by omega) (by simp; omega) ?_; intro A4 c4 w4 hO4 hb4 hg4; have hB4 := (hB3.alloc z3 (.cells #[.int .u8 0] 5)).trans hb4)
  have BW4 := bt B2 hB4
  have e4 := open_more k b [0] (by rw [HN.out]; omega) (by simp)
  have h5 := hC.openC A4 (n + 10) c4 _ w4 (hL.keep BW4) hO4.len hO4.cap.1 (by omega) hO4.rd
  rw [e4] at h5
  refine h5.mono ?_
  rintro e w5 ⟨⟨A5, c5, rfl, _⟩, hb5⟩
  simp only
  have q0 : ∀ (W : World) (z : Int), z = ((n + 8 : Nat) : Int) → (Instr.sliceAt 34 (.slice (some ⟨g, 0, none⟩) (n + 9) c2) none (some (.int .i64 z)) none).run Tryd.prog W = .ok (.slice (some ⟨g, 0, none⟩) (n + 8) c2) W := fun W z hz => run_cut0 W _ (n + 9) c2 (n + 8) z hz (by omega) hcap
  have q0a := fun W => q0 W ((n : Int) + 8) (by omega)
  have q0b := fun W => q0 W ((n : Int) + 9 - 1) (by omega)
  have q0c := fun W => q0 W (((n + 9 : Nat) : Int) - 1) (by omega)
  clear q0
  have BW5 := bt BW4 hb5
  go_wp2_with fail
  have e6 := open_less k b (by rw [HN.out]; omega)
  rw [HN.out] at e6
  have hO25 := (hO2.keep (hB4)).keep hb5
  refine (hC.openC (some ⟨g, 0, none⟩) (n + 8) c2 ((sealL k b).take (n + 8)) _ (hL.keep (ba BW5 _)) (by rw [List.length_take, hO2.len]; omega) (by omega) (by omega) (((hO25.keep (b0 _ _)).rd).take (n + 8))).mono ?_
  rw [e6]
  rintro e w6 ⟨⟨A6, c6, rfl, _⟩, hb6⟩
  simp only
  obtain ⟨u, hu⟩ : ∃ u : Nat, IntKind.u64.wrap t = (u : Int) := ⟨(IntKind.u64.wrap t).toNat, (Int.toNat_of_nonneg (by rw [IntKind.wrap_u64]; omega)).symm⟩
  have hkk : ((u : Int) % (8 * ((n : Int) + 9))) = ((u % (8 * (n + 9)) : Nat) : Int) := by
    rw [show (8 * ((n : Int) + 9)) = ((8 * (n + 9) : Nat) : Int) by omega]
    exact (Int.natCast_emod _ _).symm
  have hkl : u % (8 * (n + 9)) < 8 * (n + 9) := Nat.mod_lt _ (by omega)
  generalize u % (8 * (n + 9)) = kk at hkk hkl
  have BW6 := bt (ba BW5 (.cells #[.int .u8 ((0 : UInt8).toNat : Int), .slice A5 0 c5] 38)) hb6
  have hO6 := ((hO25.keep (b0 w5 (.cells #[.int .u8 ((0 : UInt8).toNat : Int), .slice A5 0 c5] 38))).keep hb6)
  clear hO2 hO25 hlit0 hrf q0a q0b q0c
  have hO7 := hO6.keep (b0 w6 (.cells #[.int .u8 ((0 : UInt8).toNat : Int), .slice A6 0 c6] 38))
  have BW7 := ba BW6 (.cells #[.int .u8 ((0 : UInt8).toNat : Int), .slice A6 0 c6] 38)
  have hd8 : ((kk : Int) / 8) = ((kk / 8 : Nat) : Int) := by omega
  have hm8 : ((kk : Int) % 8) = ((kk % 8 : Nat) : Int) := by omega
  have hr8 : kk % 8 < 8 := Nat.mod_lt _ (by omega)
  have hp8 : kk / 8 < n + 9 := by omega
  generalize kk / 8 = p at hd8 hp8
  generalize kk % 8 = r at hm8 hr8
  obtain ⟨old, hold⟩ : ∃ x, (sealL k b)[p]? = some x := ⟨_, List.getElem?_eq_getElem (show p < (sealL k b).length by rw [hO7.len]; exact hp8)⟩
  have c0 : (w6.alloc (.cells #[.int .u8 0, .slice A6 0 c6] 38)).cell? ⟨g, p, none⟩ = some (.int .u8 (old.toNat : Int)) := hO7.cellAt hold
  have f0 : (w6.alloc (.cells #[.int .u8 0, .slice A6 0 c6] 38)).frozen? ⟨g, p, none⟩ = false := hO7.free p
  have i1 : (p : Int) < (n : Int) + 9 := by omega
  have i2 : (p : Int) < ((n + 9 : Nat) : Int) := by omega
  obtain ⟨y, hy, hyne⟩ := flip_is old hr8
  have hO8 := hO7.set p y
  have BW8 := BW7.setCell (p := ⟨g, p, none⟩) (show w.heap.size ≤ g by have := B1.size; omega) (.int .u8 (y.toNat : Int))
  have hop := hC.openC (some ⟨g, 0, none⟩) (n + 9) c2 _ _ (hL.keep BW8) hO8.len hcap (by omega) hO8.rd
  have hturn := open_turned (k := k) (b := b) (by rw [HN.out]; omega) (j := p) (c := y) (by rw [HN.out]; exact hp8) (by rw [hold]; intro e; injection e with e; exact hyne e.symm)
  generalize openF ((sealL k b).set p y) = res at hop hturn
  obtain ⟨rk, ri, rc⟩ := res
  simp only at hop hturn
  obtain ⟨rfl, hcode⟩ := hturn
  have HOP := Lib.hid hop
  clear hop hO7 hO8 hold hyne
  go_wp2_with fail
  rcases hcode with rfl | rfl
  · refine HOP.out.mono ?_
    rintro e w9 ⟨⟨A9, c9, rfl, _⟩, hb9⟩
    have BW9 := bt BW8 hb9
    clear HOP
    go_wp2_with fail
    go_ret
    exact ⟨rfl, ba BW9 _⟩
  · refine HOP.out.mono ?_
    rintro e w9 ⟨⟨A9, c9, rfl, _⟩, hb9⟩
    have BW9 := bt BW8 hb9
    clear HOP
    go_wp2_with fail
    go_ret
    exact ⟨rfl, ba BW9 _⟩

set_option maxRecDepth 100000 in
set_option maxHeartbeats 2000000 in
theorem lawFrameTurned_any (hC : FrameC) (k : UInt8) (A : Option Addr) (n c : Nat) (b : List UInt8) (t : Int) (w : World) (hL : LaidF w) (hn : b.length = n) (hr : RdB w.heap.size w A b) (ht : -9223372036854775808 ≤ t ∧ t ≤ 9223372036854775807) :
    Calls Tryd.prog 7 #[.int .u8 (k.toNat : Int), .slice A n c, .int .i64 t] w fun e w' => e = .returned (.bool true) ∧ Below w.heap.size w w' := by
  by_cases h : n ≤ 2000
  · exact lawFrameTurned_good hC k A n c b t w hL hn hr h ht
  · have g1 : (2000 : Int) < (n : Int) := by omega
    clear hn
    go_enter Tryd.func7, Tryd.ntmps7
    go_wp2_with fail
    refine (frameAwake hC w hL).mono ?_
    rintro e w1 ⟨rfl, B1⟩
    go_wp2_with fail
    refine (frameAwake hC w1 (hL.keep B1)).mono ?_
    rintro e w2 ⟨rfl, hb2⟩
    go_wp2_with fail
    go_ret
    exact ⟨rfl, bt B1 hb2⟩
end Go.Proofs.YtokkmofcijfmiaaDoor

namespace Go.Proofs.YtokkmofcijfmiaaDoor
open Go.RowKit

theorem lawFrameTurned_all (k : UInt8) (A : Option Addr) (n c : Nat) (l : List UInt8) (t : Int) (w : World) (hn : l.length = n) (hr : RdB w.heap.size w A l) (_ : n ≤ c) (_ : c ≤ maxLen) (ht : -9223372036854775808 ≤ t ∧ t ≤ 9223372036854775807) (hL : LaidF w) :
    Calls Tryd.prog 7 #[.int .u8 (k.toNat : Int), .slice A n c, .int .i64 t] w fun e w' => e = .returned (.bool true) ∧ Below w.heap.size w w' :=
  lawFrameTurned_any frameC k A n c l t w hL hn hr ht
end Go.Proofs.YtokkmofcijfmiaaDoor
