/-
  WHAT IS PROVED: deed.parse reads the parts of a line of at most 1000 bytes: an operation for each shape, or none. Conditions: those typed in each theorem.
-/
import Derived.Test.YtmilcgikncecnaaDoorBegun
import Derived.Test.YtmilcgikncecnaaDoorSplitMath
import Derived.Test.YtmilcgikncecnaaDoorDeedDo
namespace Go.Proofs.YtmilcgikncecnaaDoor
open Go.RowKit

/-- What the library's variables hold, as far as the walks of layer 2 read them. -/
def LaidD (W : World) : Prop := LaidV W ∧ ∃ m : Int, W.cell? ⟨0, 0, none⟩ = some (.int .i64 m)
theorem LaidD.keep {W W' : World} (h : LaidD W) (hb : Below W.heap.size W W') : LaidD W' := by
  obtain ⟨h1, m, h2⟩ := h
  refine ⟨h1.keep hb, m, ?_⟩
  have hlt : 0 < W.heap.size := by
    by_cases g : 0 < W.heap.size
    · exact g
    · unfold World.cell? at h2
      rw [Array.getElem?_eq_none (by simpa using g)] at h2
      cases h2
  rw [(bcell hb).1 _ _ hlt, h2]

/-- The line's parts in memory. -/
theorem split_any (s : ByteArray) (w : World) (hs : s.size ≤ 1000) (hL : LaidD w) :
    Calls Tryd.prog 43 #[.string s, .string ⟨#[32]⟩, .int .i64 5] w fun e w' =>
      e = .returned (.slice (some ⟨w.heap.size, 0, none⟩) (Lib.splitB ⟨#[32]⟩ 0 (min 5 (s.size + 1) - 1) s).length (min 5 (s.size + 1))) ∧
      w' = w.alloc (.cells (Lib.cellsOf (Lib.splitB ⟨#[32]⟩ 0 (min 5 (s.size + 1) - 1) s) (min 5 (s.size + 1))) 9) := by
  obtain ⟨_, m, hm⟩ := hL
  exact Tryd.strings_SplitN s ⟨#[32]⟩ 5 m w (by omega) hm (by decide) (by omega) (by omega)
theorem split_data (s : ByteArray) : (Lib.splitB ⟨#[32]⟩ 0 (min 5 (s.size + 1) - 1) s).map (·.data.toList) = pieces 4 s.data.toList := by
  have hl : s.data.toList.length = s.size := Array.length_toList
  rw [Lib.splitB_data, ← pieces_four, hl]
  exact split_pieces _ _
theorem cells_at (ps : List ByteArray) (N j : Nat) (x : ByteArray) (h : ps[j]? = some x) : (Lib.cellsOf ps N)[j]? = some (.string x) := by
  unfold Lib.cellsOf
  have hj := (List.getElem?_eq_some_iff.1 h).1
  rw [List.getElem?_toArray, List.getElem?_append_left (by simpa using hj), List.getElem?_map, h]
  rfl

/-- An answer of two: an operation, a bool. -/
abbrev opT (K : Int) (ky : ByteArray) (ka na : Int) (sa : ByteArray) (kb nb : Int) (sb : ByteArray) (b : Bool) : Value := .tuple #[opV K ky ka na sa kb nb sb, .bool b]
abbrev noT (b : Bool) : Value := opT 0 ⟨#[]⟩ 0 0 ⟨#[]⟩ 0 0 ⟨#[]⟩ b

set_option maxHeartbeats 2000000 in
theorem parse_bad (s : ByteArray) (w : World) (hs : s.size ≤ 1000) (hL : LaidD w) (ps : List ByteArray) (p0 : ByteArray) (h0 : ps[0]? = some p0)
    (Hp : Hid (Lib.splitB ⟨#[32]⟩ 0 (min 5 (s.size + 1) - 1) s = ps)) (hn : Hid (ps.length ≠ 2 + toldN (begunK p0.data.toList))) :
    Calls Tryd.prog 32 #[.string s] w fun e w' => e = .returned (noT false) ∧ Below w.heap.size w w' := by
  go_enter Tryd.func32, Tryd.ntmps32
  go_wp2_with fail
  have hB := b0 w (.cells (opC 0 ⟨#[]⟩ 0 0 ⟨#[]⟩ 0 0 ⟨#[]⟩) 28)
  have hR := Lib.hid (blk_new w (opC 0 ⟨#[]⟩ 0 0 ⟨#[]⟩ 0 0 ⟨#[]⟩) 28)
  have hL1 := hL.keep hB
  generalize w.alloc (.cells (opC 0 ⟨#[]⟩ 0 0 ⟨#[]⟩ 0 0 ⟨#[]⟩) 28) = W at hR hB hL1 ⊢
  have hS := split_any s W hs hL1
  rw [Hp.out] at hS
  have HS := Lib.hid hS
  clear hS
  have hBw := hR
  refine HS.out.mono ?_
  rintro e w1 ⟨rfl, rfl⟩
  replace hB := ba hB (.cells (Lib.cellsOf ps (min 5 (s.size + 1))) 9)
  replace hR := Lib.hid (hR.out.alloc (.cells (Lib.cellsOf ps (min 5 (s.size + 1))) 9))
  have hPs := Lib.hid (blk_new W (Lib.cellsOf ps (min 5 (s.size + 1))) 9)
  replace hL1 := hL1.keep (b0 W (.cells (Lib.cellsOf ps (min 5 (s.size + 1))) 9))
  clear HS Hp
  have hlw := hBw.out.lt
  generalize W.heap.size = PB at hPs hlw ⊢
  generalize W.alloc (.cells (Lib.cellsOf ps (min 5 (s.size + 1))) 9) = W1 at hR hB hL1 hPs ⊢
  have c0 : W1.cell? ⟨PB, 0, none⟩ = some (.string p0) := by rw [hPs.out.cell 0]; exact cells_at _ _ 0 p0 h0
  obtain ⟨q0, q1, q2, q3, q4, q5, q6, q7, q8⟩ := hR.out.c8
  obtain ⟨f0, f1, f2, f3, f4, f5, f6, f7⟩ := hR.out.f8
  have hlen : 1 ≤ ps.length := by have := (List.getElem?_eq_some_iff.1 h0).1; omega
  generalize ps.length = L at hn hlen ⊢
  generalize min 5 (s.size + 1) = C at *
  go_wp2_with fail
  refine (begun_any _ _).mono ?_
  rintro e w2 ⟨rfl, rfl⟩
  generalize begunK p0.data.toList = K at hn ⊢
  have hc := told_any K W1
  have Hc := Lib.hid hc
  clear hc
  have ht : toldN K ≤ 2 := by unfold toldN; split; omega; split <;> omega
  generalize toldN K = T at hn Hc ht
  have hne : ((L : Int) != 2 + (T : Int)) = true := by rw [bne_iff_ne]; have := hn.out; omega
  go_wp2_with (go_at_call 29; refine Hc.out.mono ?_; rintro e w2 ⟨rfl, rfl⟩)
  exact bodyPost_ret (v := noT false) (by simp [results, Tryd.results32, go_sem, q0, q1, q2, q3, q4, q5, q6, q7]) rfl ⟨rfl, below8 hB (Nat.le_refl _) _ _ _ _ _ _ _ _⟩

theorem kept {W W1 : World} (hb : Below W.heap.size W W1) {b : Nat} {cs : Array Value} {t : TypeId} (h : Blk W b cs t) : Blk W1 b cs t := h.keep hb
theorem first_below {w W : World} (h : Below w.heap.size w W) : Below w.heap.size w W.drew := h.drew
theorem keptB {w W W1 : World} (hb : Below W.heap.size W W1) (h : Below w.heap.size w W) : Below w.heap.size w W1 := bt h hb
/-- The values that were read. -/
def valsOf (ka na kb nb : Int) (sa sb : ByteArray) (j : Nat) : Array Value :=
  if j = 0 then #[.int .i64 0, .int .i64 0, .string ⟨#[]⟩, .int .i64 0, .int .i64 0, .string ⟨#[]⟩]
  else if j = 1 then #[.int .i64 ka, .int .i64 na, .string sa, .int .i64 0, .int .i64 0, .string ⟨#[]⟩]
  else #[.int .i64 ka, .int .i64 na, .string sa, .int .i64 kb, .int .i64 nb, .string sb]
/-- What a round of parse's loop has. -/
def PRel (PB VB C : Nat) (ps : List ByteArray) (vals : Array Value) (w wr : World) : Prop :=
  Blk wr PB (Lib.cellsOf ps C) 9 ∧ Blk wr VB vals 70 ∧ Blk wr w.heap.size (opC 0 ⟨#[]⟩ 0 0 ⟨#[]⟩ 0 0 ⟨#[]⟩) 28 ∧ Below w.heap.size w wr

set_option maxRecDepth 100000 in
set_option maxHeartbeats 8000000 in
theorem parse2_okgt (s : ByteArray) (w : World) (hs : s.size ≤ 1000) (hL : LaidD w) (ps : List ByteArray) (p0 p1 : ByteArray) (h0 : ps = [p0, p1]) (K : Int) (hp1 : p1.size ≤ 1000) (hCC : 2 < min 5 (s.size + 1))
    (Hp : Hid (Lib.splitB ⟨#[32]⟩ 0 (min 5 (s.size + 1) - 1) s = ps)) (hK : begunK p0.data.toList = K) (hT : toldN K = 0) :
    Calls Tryd.prog 32 #[.string s] w fun e w' => e = .returned (opT K p1 0 0 ⟨#[]⟩ 0 0 ⟨#[]⟩ true) ∧ Below w.heap.size w w' := by
  have hps : ps.length ≤ min 5 (s.size + 1) := by
    rw [← Hp.out]
    have := Lib.splitB_length_le ⟨#[32]⟩ 0 (min 5 (s.size + 1) - 1) s
    omega
  have Hbg := Lib.hid (begun_any p0)
  have Htl := Lib.hid (told_any K)
  rw [hK] at Hbg
  rw [hT] at Htl
  have HL := Lib.hid hL
  clear hK hT
  go_enter Tryd.func32, Tryd.ntmps32
  go_wp2_with fail
  have hB := b0 w (.cells (opC 0 ⟨#[]⟩ 0 0 ⟨#[]⟩ 0 0 ⟨#[]⟩) 28)
  have hR := Lib.hid (blk_new w (opC 0 ⟨#[]⟩ 0 0 ⟨#[]⟩ 0 0 ⟨#[]⟩) 28)
  have hL1 := HL.out.keep hB
  generalize w.alloc (.cells (opC 0 ⟨#[]⟩ 0 0 ⟨#[]⟩ 0 0 ⟨#[]⟩) 28) = W at hR hB hL1 ⊢
  have hS := split_any s W hs hL1
  rw [Hp.out] at hS
  have HS := Lib.hid hS
  clear hS
  have hBw := hR
  refine HS.out.mono ?_
  rintro e w1 ⟨rfl, rfl⟩
  replace hB := ba hB (.cells (Lib.cellsOf ps (min 5 (s.size + 1))) 9)
  replace hR := Lib.hid (hR.out.alloc (.cells (Lib.cellsOf ps (min 5 (s.size + 1))) 9))
  have hPs := Lib.hid (blk_new W (Lib.cellsOf ps (min 5 (s.size + 1))) 9)
  replace hL1 := hL1.keep (b0 W (.cells (Lib.cellsOf ps (min 5 (s.size + 1))) 9))
  clear HS Hp
  have hlw := hBw.out.lt
  generalize W.heap.size = PB at hPs hlw ⊢
  generalize W.alloc (.cells (Lib.cellsOf ps (min 5 (s.size + 1))) 9) = W1 at hR hB hL1 hPs ⊢
  generalize min 5 (s.size + 1) = C at *
  have c0 : W1.cell? ⟨PB, 0, none⟩ = some (.string p0) := by rw [hPs.out.cell 0]; exact cells_at _ _ 0 p0 (by rw [h0]; rfl)
  have hl : ps.length = 2 := by rw [h0]; rfl
  rw [hl] at hps ⊢
  clear hl
  go_wp2_with (first | (go_at_call 44; refine (Hbg.out _).mono ?_; rintro e w2 ⟨rfl, rfl⟩) | (go_at_call 29; refine (Htl.out _).mono ?_; rintro e w2 ⟨rfl, rfl⟩))
  have l1 := hPs.out.lt
  have l2 := hR.out.lt
  have hRel : PRel PB W1.heap.size C ps (valsOf 0 0 0 0 ⟨#[]⟩ ⟨#[]⟩ 0) w (W1.alloc (.cells #[.int .i64 0, .int .i64 0, .string ⟨#[]⟩, .int .i64 0, .int .i64 0, .string ⟨#[]⟩] 70)) :=
    ⟨hPs.out.alloc _, blk_new _ _ _, hR.out.alloc _, ba hB _⟩
  generalize W1.alloc (.cells #[.int .i64 0, .int .i64 0, .string ⟨#[]⟩, .int .i64 0, .int .i64 0, .string ⟨#[]⟩] 70) = W3 at hRel ⊢
  clear c0 hPs hR hB hL1 Hbg Htl hL hs
  generalize W1.heap.size = VB at hRel l1 l2 ⊢
  have l3 := l2
  have HRel := Lib.hid hRel
  have n1 : PB ≠ VB := by omega
  have n2 : w.heap.size ≠ VB := by omega
  have N1 := Lib.hid n1
  have N2 := Lib.hid n2
  have N4 : Hid (VB ≠ w.heap.size) := fun e => n2 e.symm
  have N3 : Hid (PB ≠ w.heap.size) := by show _ ≠ _; omega
  clear hRel n1 n2
  go_loopw [27] (fun i wr => ∃ j : Nat, j ≤ 0 ∧ i = .int .i64 j ∧ PRel PB VB C ps (valsOf 0 0 0 0 ⟨#[]⟩ ⟨#[]⟩ j) w wr) (fun i _ => 0 - (intOf i).toNat)
  case atStart => exact ⟨0, by omega, rfl, HRel.out⟩
  case round =>
    obtain ⟨j, hj, rfl, hP, hV, hR, hB⟩ := hrel
    have HP := Lib.hid hP
    have HV := Lib.hid hV
    have HR := Lib.hid hR
    clear hP hV hR HRel
    obtain rfl : j = 0 := by omega
    replace HV : Hid (Blk wr VB #[.int .i64 0, .int .i64 0, .string ⟨#[]⟩, .int .i64 0, .int .i64 0, .string ⟨#[]⟩] 70) := HV.out
    have hS : ∀ W : World, Blk W PB (Lib.cellsOf ps C) 9 → Blk W VB #[.int .i64 0, .int .i64 0, .string ⟨#[]⟩, .int .i64 0, .int .i64 0, .string ⟨#[]⟩] 70 → (W.cell? ⟨PB, 1, none⟩ = some (.string p1) ∧ W.cell? ⟨VB, 0, none⟩ = some (.int .i64 0) ∧ W.cell? ⟨VB, 1, none⟩ = some (.int .i64 0) ∧ W.cell? ⟨VB, 2, none⟩ = some (.string ⟨#[]⟩) ∧ W.cell? ⟨VB, 3, none⟩ = some (.int .i64 0) ∧ W.cell? ⟨VB, 4, none⟩ = some (.int .i64 0) ∧ W.cell? ⟨VB, 5, none⟩ = some (.string ⟨#[]⟩)) := by
      intro W h1 h2
      exact ⟨by rw [h1.cell 1]; exact cells_at _ _ 1 p1 (by rw [h0]; rfl), h2.cell 0, h2.cell 1, h2.cell 2, h2.cell 3, h2.cell 4, h2.cell 5⟩
    have HS := Lib.hid hS
    clear hS
    have HS0 := Lib.hid (HS.out wr.drew HP.out HV.out)
    have HS8 : Hid (∀ (W7 : World), Blk W7 PB (Lib.cellsOf ps C) 9 → Blk W7 VB #[.int .i64 0, .int .i64 0, .string ⟨#[]⟩, .int .i64 0, .int .i64 0, .string ⟨#[]⟩] 70 → ∀ v0 v1 v2 v3 v4 v5 v6 v7 : Value, ((((((((W7.setCell ⟨w.heap.size, 0, none⟩ v0).setCell ⟨w.heap.size, 1, none⟩ v1).setCell ⟨w.heap.size, 2, none⟩ v2).setCell ⟨w.heap.size, 3, none⟩ v3).setCell ⟨w.heap.size, 4, none⟩ v4).setCell ⟨w.heap.size, 5, none⟩ v5).setCell ⟨w.heap.size, 6, none⟩ v6).setCell ⟨w.heap.size, 7, none⟩ v7).cell? ⟨PB, 1, none⟩ = some (.string p1) ∧ ((((((((W7.setCell ⟨w.heap.size, 0, none⟩ v0).setCell ⟨w.heap.size, 1, none⟩ v1).setCell ⟨w.heap.size, 2, none⟩ v2).setCell ⟨w.heap.size, 3, none⟩ v3).setCell ⟨w.heap.size, 4, none⟩ v4).setCell ⟨w.heap.size, 5, none⟩ v5).setCell ⟨w.heap.size, 6, none⟩ v6).setCell ⟨w.heap.size, 7, none⟩ v7).cell? ⟨VB, 0, none⟩ = some (.int .i64 0) ∧ ((((((((W7.setCell ⟨w.heap.size, 0, none⟩ v0).setCell ⟨w.heap.size, 1, none⟩ v1).setCell ⟨w.heap.size, 2, none⟩ v2).setCell ⟨w.heap.size, 3, none⟩ v3).setCell ⟨w.heap.size, 4, none⟩ v4).setCell ⟨w.heap.size, 5, none⟩ v5).setCell ⟨w.heap.size, 6, none⟩ v6).setCell ⟨w.heap.size, 7, none⟩ v7).cell? ⟨VB, 1, none⟩ = some (.int .i64 0) ∧ ((((((((W7.setCell ⟨w.heap.size, 0, none⟩ v0).setCell ⟨w.heap.size, 1, none⟩ v1).setCell ⟨w.heap.size, 2, none⟩ v2).setCell ⟨w.heap.size, 3, none⟩ v3).setCell ⟨w.heap.size, 4, none⟩ v4).setCell ⟨w.heap.size, 5, none⟩ v5).setCell ⟨w.heap.size, 6, none⟩ v6).setCell ⟨w.heap.size, 7, none⟩ v7).cell? ⟨VB, 2, none⟩ = some (.string ⟨#[]⟩) ∧ ((((((((W7.setCell ⟨w.heap.size, 0, none⟩ v0).setCell ⟨w.heap.size, 1, none⟩ v1).setCell ⟨w.heap.size, 2, none⟩ v2).setCell ⟨w.heap.size, 3, none⟩ v3).setCell ⟨w.heap.size, 4, none⟩ v4).setCell ⟨w.heap.size, 5, none⟩ v5).setCell ⟨w.heap.size, 6, none⟩ v6).setCell ⟨w.heap.size, 7, none⟩ v7).cell? ⟨VB, 3, none⟩ = some (.int .i64 0) ∧ ((((((((W7.setCell ⟨w.heap.size, 0, none⟩ v0).setCell ⟨w.heap.size, 1, none⟩ v1).setCell ⟨w.heap.size, 2, none⟩ v2).setCell ⟨w.heap.size, 3, none⟩ v3).setCell ⟨w.heap.size, 4, none⟩ v4).setCell ⟨w.heap.size, 5, none⟩ v5).setCell ⟨w.heap.size, 6, none⟩ v6).setCell ⟨w.heap.size, 7, none⟩ v7).cell? ⟨VB, 4, none⟩ = some (.int .i64 0) ∧ ((((((((W7.setCell ⟨w.heap.size, 0, none⟩ v0).setCell ⟨w.heap.size, 1, none⟩ v1).setCell ⟨w.heap.size, 2, none⟩ v2).setCell ⟨w.heap.size, 3, none⟩ v3).setCell ⟨w.heap.size, 4, none⟩ v4).setCell ⟨w.heap.size, 5, none⟩ v5).setCell ⟨w.heap.size, 6, none⟩ v6).setCell ⟨w.heap.size, 7, none⟩ v7).cell? ⟨VB, 5, none⟩ = some (.string ⟨#[]⟩)) := fun W7 h1 h2 v0 v1 v2 v3 v4 v5 v6 v7 => HS.out _ (h1.other8 N3.out v0 v1 v2 v3 v4 v5 v6 v7) (h2.other8 N4.out v0 v1 v2 v3 v4 v5 v6 v7)
    go_wp2_with fail
    go_region_held3 (fun W => W.cell? ⟨PB, 1, none⟩ = some (.string p1) ∧ W.cell? ⟨VB, 0, none⟩ = some (.int .i64 0) ∧ W.cell? ⟨VB, 1, none⟩ = some (.int .i64 0) ∧ W.cell? ⟨VB, 2, none⟩ = some (.string ⟨#[]⟩) ∧ W.cell? ⟨VB, 3, none⟩ = some (.int .i64 0) ∧ W.cell? ⟨VB, 4, none⟩ = some (.int .i64 0) ∧ W.cell? ⟨VB, 5, none⟩ = some (.string ⟨#[]⟩)) (first | with_reducible exact HS0.out | with_reducible exact HS7.out | with_reducible exact HS9.out _ _ _ _ _ _ _ _) (first | (go_at_call 26; refine (clone_any _ _ (by omega)).mono ?_; rintro e w7 ⟨rfl, hb7⟩; have HP7 := Lib.hid (kept hb7 HP.out); have HV7 := Lib.hid (kept hb7 HV.out); have hB7 := Lib.hid (keptB hb7 (w := w) (first_below hB)); have HS7 := Lib.hid (HS.out _ HP7.out HV7.out); have HS9 := Lib.hid (HS8.out _ HP7.out HV7.out); obtain ⟨q0, q1, q2, q3, q4, q5, q6, q7, q8⟩ := (kept hb7 HR.out).c8; obtain ⟨f0, f1, f2, f3, f4, f5, f6, f7⟩ := (kept hb7 HR.out).f8))
    go_wp2_with fail
    exact bodyPost_ret (v := opT K p1 0 0 ⟨#[]⟩ 0 0 ⟨#[]⟩ true) (by simp [results, Tryd.results32, go_sem, q0, q1, q2, q3, q4, q5, q6, q7]) rfl ⟨rfl, below8 hB7.out (Nat.le_refl _) _ _ _ _ _ _ _ _⟩

set_option maxRecDepth 100000 in
set_option maxHeartbeats 8000000 in
theorem parse2_okeq (s : ByteArray) (w : World) (hs : s.size ≤ 1000) (hL : LaidD w) (ps : List ByteArray) (p0 p1 : ByteArray) (h0 : ps = [p0, p1]) (K : Int) (hp1 : p1.size ≤ 1000) (hCC : min 5 (s.size + 1) = 2)
    (Hp : Hid (Lib.splitB ⟨#[32]⟩ 0 (min 5 (s.size + 1) - 1) s = ps)) (hK : begunK p0.data.toList = K) (hT : toldN K = 0) :
    Calls Tryd.prog 32 #[.string s] w fun e w' => e = .returned (opT K p1 0 0 ⟨#[]⟩ 0 0 ⟨#[]⟩ true) ∧ Below w.heap.size w w' := by
  have hps : ps.length ≤ min 5 (s.size + 1) := by
    rw [← Hp.out]
    have := Lib.splitB_length_le ⟨#[32]⟩ 0 (min 5 (s.size + 1) - 1) s
    omega
  have Hbg := Lib.hid (begun_any p0)
  have Htl := Lib.hid (told_any K)
  rw [hK] at Hbg
  rw [hT] at Htl
  have HL := Lib.hid hL
  clear hK hT
  go_enter Tryd.func32, Tryd.ntmps32
  go_wp2_with fail
  have hB := b0 w (.cells (opC 0 ⟨#[]⟩ 0 0 ⟨#[]⟩ 0 0 ⟨#[]⟩) 28)
  have hR := Lib.hid (blk_new w (opC 0 ⟨#[]⟩ 0 0 ⟨#[]⟩ 0 0 ⟨#[]⟩) 28)
  have hL1 := HL.out.keep hB
  generalize w.alloc (.cells (opC 0 ⟨#[]⟩ 0 0 ⟨#[]⟩ 0 0 ⟨#[]⟩) 28) = W at hR hB hL1 ⊢
  have hS := split_any s W hs hL1
  rw [Hp.out] at hS
  have HS := Lib.hid hS
  clear hS
  have hBw := hR
  refine HS.out.mono ?_
  rintro e w1 ⟨rfl, rfl⟩
  replace hB := ba hB (.cells (Lib.cellsOf ps (min 5 (s.size + 1))) 9)
  replace hR := Lib.hid (hR.out.alloc (.cells (Lib.cellsOf ps (min 5 (s.size + 1))) 9))
  have hPs := Lib.hid (blk_new W (Lib.cellsOf ps (min 5 (s.size + 1))) 9)
  replace hL1 := hL1.keep (b0 W (.cells (Lib.cellsOf ps (min 5 (s.size + 1))) 9))
  clear HS Hp
  have hlw := hBw.out.lt
  generalize W.heap.size = PB at hPs hlw ⊢
  generalize W.alloc (.cells (Lib.cellsOf ps (min 5 (s.size + 1))) 9) = W1 at hR hB hL1 hPs ⊢
  generalize min 5 (s.size + 1) = C at *
  subst hCC
  have c0 : W1.cell? ⟨PB, 0, none⟩ = some (.string p0) := by rw [hPs.out.cell 0]; exact cells_at _ _ 0 p0 (by rw [h0]; rfl)
  have hl : ps.length = 2 := by rw [h0]; rfl
  rw [hl] at hps ⊢
  clear hl
  go_wp2_with (first | (go_at_call 44; refine (Hbg.out _).mono ?_; rintro e w2 ⟨rfl, rfl⟩) | (go_at_call 29; refine (Htl.out _).mono ?_; rintro e w2 ⟨rfl, rfl⟩))
  have l1 := hPs.out.lt
  have l2 := hR.out.lt
  have hRel : PRel PB W1.heap.size 2 ps (valsOf 0 0 0 0 ⟨#[]⟩ ⟨#[]⟩ 0) w (W1.alloc (.cells #[.int .i64 0, .int .i64 0, .string ⟨#[]⟩, .int .i64 0, .int .i64 0, .string ⟨#[]⟩] 70)) :=
    ⟨hPs.out.alloc _, blk_new _ _ _, hR.out.alloc _, ba hB _⟩
  generalize W1.alloc (.cells #[.int .i64 0, .int .i64 0, .string ⟨#[]⟩, .int .i64 0, .int .i64 0, .string ⟨#[]⟩] 70) = W3 at hRel ⊢
  clear c0 hPs hR hB hL1 Hbg Htl hL hs
  generalize W1.heap.size = VB at hRel l1 l2 ⊢
  have l3 := l2
  have HRel := Lib.hid hRel
  have n1 : PB ≠ VB := by omega
  have n2 : w.heap.size ≠ VB := by omega
  have N1 := Lib.hid n1
  have N2 := Lib.hid n2
  have N4 : Hid (VB ≠ w.heap.size) := fun e => n2 e.symm
  have N3 : Hid (PB ≠ w.heap.size) := by show _ ≠ _; omega
  clear hRel n1 n2
  go_loopw [27] (fun i wr => ∃ j : Nat, j ≤ 0 ∧ i = .int .i64 j ∧ PRel PB VB 2 ps (valsOf 0 0 0 0 ⟨#[]⟩ ⟨#[]⟩ j) w wr) (fun i _ => 0 - (intOf i).toNat)
  case atStart => exact ⟨0, by omega, rfl, HRel.out⟩
  case round =>
    obtain ⟨j, hj, rfl, hP, hV, hR, hB⟩ := hrel
    have HP := Lib.hid hP
    have HV := Lib.hid hV
    have HR := Lib.hid hR
    clear hP hV hR HRel
    obtain rfl : j = 0 := by omega
    replace HV : Hid (Blk wr VB #[.int .i64 0, .int .i64 0, .string ⟨#[]⟩, .int .i64 0, .int .i64 0, .string ⟨#[]⟩] 70) := HV.out
    have hS : ∀ W : World, Blk W PB (Lib.cellsOf ps 2) 9 → Blk W VB #[.int .i64 0, .int .i64 0, .string ⟨#[]⟩, .int .i64 0, .int .i64 0, .string ⟨#[]⟩] 70 → (W.cell? ⟨PB, 1, none⟩ = some (.string p1) ∧ W.cell? ⟨VB, 0, none⟩ = some (.int .i64 0) ∧ W.cell? ⟨VB, 1, none⟩ = some (.int .i64 0) ∧ W.cell? ⟨VB, 2, none⟩ = some (.string ⟨#[]⟩) ∧ W.cell? ⟨VB, 3, none⟩ = some (.int .i64 0) ∧ W.cell? ⟨VB, 4, none⟩ = some (.int .i64 0) ∧ W.cell? ⟨VB, 5, none⟩ = some (.string ⟨#[]⟩)) := by
      intro W h1 h2
      exact ⟨by rw [h1.cell 1]; exact cells_at _ _ 1 p1 (by rw [h0]; rfl), h2.cell 0, h2.cell 1, h2.cell 2, h2.cell 3, h2.cell 4, h2.cell 5⟩
    have HS := Lib.hid hS
    clear hS
    have HS0 := Lib.hid (HS.out wr.drew HP.out HV.out)
    have HS8 : Hid (∀ (W7 : World), Blk W7 PB (Lib.cellsOf ps 2) 9 → Blk W7 VB #[.int .i64 0, .int .i64 0, .string ⟨#[]⟩, .int .i64 0, .int .i64 0, .string ⟨#[]⟩] 70 → ∀ v0 v1 v2 v3 v4 v5 v6 v7 : Value, ((((((((W7.setCell ⟨w.heap.size, 0, none⟩ v0).setCell ⟨w.heap.size, 1, none⟩ v1).setCell ⟨w.heap.size, 2, none⟩ v2).setCell ⟨w.heap.size, 3, none⟩ v3).setCell ⟨w.heap.size, 4, none⟩ v4).setCell ⟨w.heap.size, 5, none⟩ v5).setCell ⟨w.heap.size, 6, none⟩ v6).setCell ⟨w.heap.size, 7, none⟩ v7).cell? ⟨PB, 1, none⟩ = some (.string p1) ∧ ((((((((W7.setCell ⟨w.heap.size, 0, none⟩ v0).setCell ⟨w.heap.size, 1, none⟩ v1).setCell ⟨w.heap.size, 2, none⟩ v2).setCell ⟨w.heap.size, 3, none⟩ v3).setCell ⟨w.heap.size, 4, none⟩ v4).setCell ⟨w.heap.size, 5, none⟩ v5).setCell ⟨w.heap.size, 6, none⟩ v6).setCell ⟨w.heap.size, 7, none⟩ v7).cell? ⟨VB, 0, none⟩ = some (.int .i64 0) ∧ ((((((((W7.setCell ⟨w.heap.size, 0, none⟩ v0).setCell ⟨w.heap.size, 1, none⟩ v1).setCell ⟨w.heap.size, 2, none⟩ v2).setCell ⟨w.heap.size, 3, none⟩ v3).setCell ⟨w.heap.size, 4, none⟩ v4).setCell ⟨w.heap.size, 5, none⟩ v5).setCell ⟨w.heap.size, 6, none⟩ v6).setCell ⟨w.heap.size, 7, none⟩ v7).cell? ⟨VB, 1, none⟩ = some (.int .i64 0) ∧ ((((((((W7.setCell ⟨w.heap.size, 0, none⟩ v0).setCell ⟨w.heap.size, 1, none⟩ v1).setCell ⟨w.heap.size, 2, none⟩ v2).setCell ⟨w.heap.size, 3, none⟩ v3).setCell ⟨w.heap.size, 4, none⟩ v4).setCell ⟨w.heap.size, 5, none⟩ v5).setCell ⟨w.heap.size, 6, none⟩ v6).setCell ⟨w.heap.size, 7, none⟩ v7).cell? ⟨VB, 2, none⟩ = some (.string ⟨#[]⟩) ∧ ((((((((W7.setCell ⟨w.heap.size, 0, none⟩ v0).setCell ⟨w.heap.size, 1, none⟩ v1).setCell ⟨w.heap.size, 2, none⟩ v2).setCell ⟨w.heap.size, 3, none⟩ v3).setCell ⟨w.heap.size, 4, none⟩ v4).setCell ⟨w.heap.size, 5, none⟩ v5).setCell ⟨w.heap.size, 6, none⟩ v6).setCell ⟨w.heap.size, 7, none⟩ v7).cell? ⟨VB, 3, none⟩ = some (.int .i64 0) ∧ ((((((((W7.setCell ⟨w.heap.size, 0, none⟩ v0).setCell ⟨w.heap.size, 1, none⟩ v1).setCell ⟨w.heap.size, 2, none⟩ v2).setCell ⟨w.heap.size, 3, none⟩ v3).setCell ⟨w.heap.size, 4, none⟩ v4).setCell ⟨w.heap.size, 5, none⟩ v5).setCell ⟨w.heap.size, 6, none⟩ v6).setCell ⟨w.heap.size, 7, none⟩ v7).cell? ⟨VB, 4, none⟩ = some (.int .i64 0) ∧ ((((((((W7.setCell ⟨w.heap.size, 0, none⟩ v0).setCell ⟨w.heap.size, 1, none⟩ v1).setCell ⟨w.heap.size, 2, none⟩ v2).setCell ⟨w.heap.size, 3, none⟩ v3).setCell ⟨w.heap.size, 4, none⟩ v4).setCell ⟨w.heap.size, 5, none⟩ v5).setCell ⟨w.heap.size, 6, none⟩ v6).setCell ⟨w.heap.size, 7, none⟩ v7).cell? ⟨VB, 5, none⟩ = some (.string ⟨#[]⟩)) := fun W7 h1 h2 v0 v1 v2 v3 v4 v5 v6 v7 => HS.out _ (h1.other8 N3.out v0 v1 v2 v3 v4 v5 v6 v7) (h2.other8 N4.out v0 v1 v2 v3 v4 v5 v6 v7)
    go_wp2_with fail
    go_region_held3 (fun W => W.cell? ⟨PB, 1, none⟩ = some (.string p1) ∧ W.cell? ⟨VB, 0, none⟩ = some (.int .i64 0) ∧ W.cell? ⟨VB, 1, none⟩ = some (.int .i64 0) ∧ W.cell? ⟨VB, 2, none⟩ = some (.string ⟨#[]⟩) ∧ W.cell? ⟨VB, 3, none⟩ = some (.int .i64 0) ∧ W.cell? ⟨VB, 4, none⟩ = some (.int .i64 0) ∧ W.cell? ⟨VB, 5, none⟩ = some (.string ⟨#[]⟩)) (first | with_reducible exact HS0.out | with_reducible exact HS7.out | with_reducible exact HS9.out _ _ _ _ _ _ _ _) (first | (go_at_call 26; refine (clone_any _ _ (by omega)).mono ?_; rintro e w7 ⟨rfl, hb7⟩; have HP7 := Lib.hid (kept hb7 HP.out); have HV7 := Lib.hid (kept hb7 HV.out); have hB7 := Lib.hid (keptB hb7 (w := w) (first_below hB)); have HS7 := Lib.hid (HS.out _ HP7.out HV7.out); have HS9 := Lib.hid (HS8.out _ HP7.out HV7.out); obtain ⟨q0, q1, q2, q3, q4, q5, q6, q7, q8⟩ := (kept hb7 HR.out).c8; obtain ⟨f0, f1, f2, f3, f4, f5, f6, f7⟩ := (kept hb7 HR.out).f8))
    go_wp2_with fail
    exact bodyPost_ret (v := opT K p1 0 0 ⟨#[]⟩ 0 0 ⟨#[]⟩ true) (by simp [results, Tryd.results32, go_sem, q0, q1, q2, q3, q4, q5, q6, q7]) rfl ⟨rfl, below8 hB7.out (Nat.le_refl _) _ _ _ _ _ _ _ _⟩

set_option maxRecDepth 100000 in
set_option maxHeartbeats 8000000 in
theorem parse3_ok (s : ByteArray) (w : World) (hs : s.size ≤ 1000) (hL : LaidD w) (ps : List ByteArray) (p0 p1 p2 : ByteArray) (h0 : ps = [p0, p1, p2]) (K : Int) (ka na : Int) (sa : ByteArray) (hp1 : p1.size ≤ 1000)
    (Hp : Hid (Lib.splitB ⟨#[32]⟩ 0 (min 5 (s.size + 1) - 1) s = ps)) (hK : begunK p0.data.toList = K) (hT : toldN K = 1)
    (Hra : Hid (∀ W : World, LaidV W → Calls Tryd.prog 45 #[.string p2] W fun e W' => e = .returned (.tuple #[.agg #[.int .i64 ka, .int .i64 na, .string sa], .int .i64 0]) ∧ Below W.heap.size W W')) :
    Calls Tryd.prog 32 #[.string s] w fun e w' => e = .returned (opT K p1 ka na sa 0 0 ⟨#[]⟩ true) ∧ Below w.heap.size w w' := by
  have hps : ps.length ≤ min 5 (s.size + 1) := by
    rw [← Hp.out]
    have := Lib.splitB_length_le ⟨#[32]⟩ 0 (min 5 (s.size + 1) - 1) s
    omega
  have Hbg := Lib.hid (begun_any p0)
  have Htl := Lib.hid (told_any K)
  rw [hK] at Hbg
  rw [hT] at Htl
  have HL := Lib.hid hL
  clear hK hT
  go_enter Tryd.func32, Tryd.ntmps32
  go_wp2_with fail
  have hB := b0 w (.cells (opC 0 ⟨#[]⟩ 0 0 ⟨#[]⟩ 0 0 ⟨#[]⟩) 28)
  have hR := Lib.hid (blk_new w (opC 0 ⟨#[]⟩ 0 0 ⟨#[]⟩ 0 0 ⟨#[]⟩) 28)
  have hL1 := HL.out.keep hB
  generalize w.alloc (.cells (opC 0 ⟨#[]⟩ 0 0 ⟨#[]⟩ 0 0 ⟨#[]⟩) 28) = W at hR hB hL1 ⊢
  have hS := split_any s W hs hL1
  rw [Hp.out] at hS
  have HS := Lib.hid hS
  clear hS
  have hBw := hR
  refine HS.out.mono ?_
  rintro e w1 ⟨rfl, rfl⟩
  replace hB := ba hB (.cells (Lib.cellsOf ps (min 5 (s.size + 1))) 9)
  replace hR := Lib.hid (hR.out.alloc (.cells (Lib.cellsOf ps (min 5 (s.size + 1))) 9))
  have hPs := Lib.hid (blk_new W (Lib.cellsOf ps (min 5 (s.size + 1))) 9)
  replace hL1 := hL1.keep (b0 W (.cells (Lib.cellsOf ps (min 5 (s.size + 1))) 9))
  clear HS Hp
  have hlw := hBw.out.lt
  generalize W.heap.size = PB at hPs hlw ⊢
  generalize W.alloc (.cells (Lib.cellsOf ps (min 5 (s.size + 1))) 9) = W1 at hR hB hL1 hPs ⊢
  generalize min 5 (s.size + 1) = C at *
  have c0 : W1.cell? ⟨PB, 0, none⟩ = some (.string p0) := by rw [hPs.out.cell 0]; exact cells_at _ _ 0 p0 (by rw [h0]; rfl)
  have hl : ps.length = 3 := by rw [h0]; rfl
  rw [hl] at hps ⊢
  clear hl
  go_wp2_with (first | (go_at_call 44; refine (Hbg.out _).mono ?_; rintro e w2 ⟨rfl, rfl⟩) | (go_at_call 29; refine (Htl.out _).mono ?_; rintro e w2 ⟨rfl, rfl⟩))
  have l1 := hPs.out.lt
  have l2 := hR.out.lt
  have hRel : PRel PB W1.heap.size C ps (valsOf ka na 0 0 sa ⟨#[]⟩ 0) w (W1.alloc (.cells #[.int .i64 0, .int .i64 0, .string ⟨#[]⟩, .int .i64 0, .int .i64 0, .string ⟨#[]⟩] 70)) :=
    ⟨hPs.out.alloc _, blk_new _ _ _, hR.out.alloc _, ba hB _⟩
  generalize W1.alloc (.cells #[.int .i64 0, .int .i64 0, .string ⟨#[]⟩, .int .i64 0, .int .i64 0, .string ⟨#[]⟩] 70) = W3 at hRel ⊢
  clear c0 hPs hR hB hL1 Hbg Htl hL hs
  generalize W1.heap.size = VB at hRel l1 l2 ⊢
  have l3 := l2
  have HRel := Lib.hid hRel
  have n1 : PB ≠ VB := by omega
  have n2 : w.heap.size ≠ VB := by omega
  have N1 := Lib.hid n1
  have N2 := Lib.hid n2
  have N4 : Hid (VB ≠ w.heap.size) := fun e => n2 e.symm
  have N3 : Hid (PB ≠ w.heap.size) := by show _ ≠ _; omega
  clear hRel n1 n2
  go_loopw [27] (fun i wr => ∃ j : Nat, j ≤ 1 ∧ i = .int .i64 j ∧ PRel PB VB C ps (valsOf ka na 0 0 sa ⟨#[]⟩ j) w wr) (fun i _ => 1 - (intOf i).toNat)
  case atStart => exact ⟨0, by omega, rfl, HRel.out⟩
  case round =>
    obtain ⟨j, hj, rfl, hP, hV, hR, hB⟩ := hrel
    have HP := Lib.hid hP
    have HV := Lib.hid hV
    have HR := Lib.hid hR
    clear hP hV hR HRel
    by_cases j0 : j = 0
    · subst j0
      have c0 : wr.cell? ⟨PB, 2, none⟩ = some (.string p2) := by rw [HP.out.cell 2]; exact cells_at _ _ 2 p2 (by rw [h0]; rfl)
      have hLr := (HL.out.keep hB).1
      go_wp2_with fail
      refine (Hra.out _ hLr).mono ?_
      rintro e w5 ⟨rfl, hb5⟩
      replace hB := bt hB hb5
      replace HP := Lib.hid (HP.out.keep hb5)
      replace HR := Lib.hid (HR.out.keep hb5)
      replace HV : Hid (Blk w5 VB #[.int .i64 0, .int .i64 0, .string ⟨#[]⟩, .int .i64 0, .int .i64 0, .string ⟨#[]⟩] 70) := HV.out.keep hb5
      clear c0 hLr hb5
      obtain ⟨q0, q1, q2, q3, q4, q5, q6⟩ := HV.out.c6
      obtain ⟨f0, f1, f2, f3, f4, f5⟩ := HV.out.f6
      have x1 : ¬ w5.heap.size = VB := by omega
      have x2 : ¬ VB = w5.heap.size := by omega
      go_wp2_with fail
      go_roundw
      case rel =>
        refine ⟨1, by omega, by go_num, ?_, ?_, ?_, ?_⟩
        · exact (((HP.out.other N1.out _ _).other N1.out _ _).other N1.out _ _).alloc _
        · have h := (((HV.out.set 0 (.int .i64 ka)).set 1 (.int .i64 na)).set 2 (.string sa)).alloc (.cells #[.int .i64 ka, .int .i64 na, .string sa] 26)
          exact h
        · exact (((HR.out.other N2.out _ _).other N2.out _ _).other N2.out _ _).alloc _
        · exact ba (((hB.setCell (p := ⟨VB, 0, none⟩) (Nat.le_of_lt l3) _).setCell (p := ⟨VB, 1, none⟩) (Nat.le_of_lt l3) _).setCell (p := ⟨VB, 2, none⟩) (Nat.le_of_lt l3) _) _
      case measure => simp [intOf] <;> omega
    · skip
      obtain rfl : j = 1 := by omega
      replace HV : Hid (Blk wr VB #[.int .i64 ka, .int .i64 na, .string sa, .int .i64 0, .int .i64 0, .string ⟨#[]⟩] 70) := HV.out
      have hS : ∀ W : World, Blk W PB (Lib.cellsOf ps C) 9 → Blk W VB #[.int .i64 ka, .int .i64 na, .string sa, .int .i64 0, .int .i64 0, .string ⟨#[]⟩] 70 → (W.cell? ⟨PB, 1, none⟩ = some (.string p1) ∧ W.cell? ⟨VB, 0, none⟩ = some (.int .i64 ka) ∧ W.cell? ⟨VB, 1, none⟩ = some (.int .i64 na) ∧ W.cell? ⟨VB, 2, none⟩ = some (.string sa) ∧ W.cell? ⟨VB, 3, none⟩ = some (.int .i64 0) ∧ W.cell? ⟨VB, 4, none⟩ = some (.int .i64 0) ∧ W.cell? ⟨VB, 5, none⟩ = some (.string ⟨#[]⟩)) := by
        intro W h1 h2
        exact ⟨by rw [h1.cell 1]; exact cells_at _ _ 1 p1 (by rw [h0]; rfl), h2.cell 0, h2.cell 1, h2.cell 2, h2.cell 3, h2.cell 4, h2.cell 5⟩
      have HS := Lib.hid hS
      clear hS
      have HS0 := Lib.hid (HS.out wr.drew HP.out HV.out)
      have HS8 : Hid (∀ (W7 : World), Blk W7 PB (Lib.cellsOf ps C) 9 → Blk W7 VB #[.int .i64 ka, .int .i64 na, .string sa, .int .i64 0, .int .i64 0, .string ⟨#[]⟩] 70 → ∀ v0 v1 v2 v3 v4 v5 v6 v7 : Value, ((((((((W7.setCell ⟨w.heap.size, 0, none⟩ v0).setCell ⟨w.heap.size, 1, none⟩ v1).setCell ⟨w.heap.size, 2, none⟩ v2).setCell ⟨w.heap.size, 3, none⟩ v3).setCell ⟨w.heap.size, 4, none⟩ v4).setCell ⟨w.heap.size, 5, none⟩ v5).setCell ⟨w.heap.size, 6, none⟩ v6).setCell ⟨w.heap.size, 7, none⟩ v7).cell? ⟨PB, 1, none⟩ = some (.string p1) ∧ ((((((((W7.setCell ⟨w.heap.size, 0, none⟩ v0).setCell ⟨w.heap.size, 1, none⟩ v1).setCell ⟨w.heap.size, 2, none⟩ v2).setCell ⟨w.heap.size, 3, none⟩ v3).setCell ⟨w.heap.size, 4, none⟩ v4).setCell ⟨w.heap.size, 5, none⟩ v5).setCell ⟨w.heap.size, 6, none⟩ v6).setCell ⟨w.heap.size, 7, none⟩ v7).cell? ⟨VB, 0, none⟩ = some (.int .i64 ka) ∧ ((((((((W7.setCell ⟨w.heap.size, 0, none⟩ v0).setCell ⟨w.heap.size, 1, none⟩ v1).setCell ⟨w.heap.size, 2, none⟩ v2).setCell ⟨w.heap.size, 3, none⟩ v3).setCell ⟨w.heap.size, 4, none⟩ v4).setCell ⟨w.heap.size, 5, none⟩ v5).setCell ⟨w.heap.size, 6, none⟩ v6).setCell ⟨w.heap.size, 7, none⟩ v7).cell? ⟨VB, 1, none⟩ = some (.int .i64 na) ∧ ((((((((W7.setCell ⟨w.heap.size, 0, none⟩ v0).setCell ⟨w.heap.size, 1, none⟩ v1).setCell ⟨w.heap.size, 2, none⟩ v2).setCell ⟨w.heap.size, 3, none⟩ v3).setCell ⟨w.heap.size, 4, none⟩ v4).setCell ⟨w.heap.size, 5, none⟩ v5).setCell ⟨w.heap.size, 6, none⟩ v6).setCell ⟨w.heap.size, 7, none⟩ v7).cell? ⟨VB, 2, none⟩ = some (.string sa) ∧ ((((((((W7.setCell ⟨w.heap.size, 0, none⟩ v0).setCell ⟨w.heap.size, 1, none⟩ v1).setCell ⟨w.heap.size, 2, none⟩ v2).setCell ⟨w.heap.size, 3, none⟩ v3).setCell ⟨w.heap.size, 4, none⟩ v4).setCell ⟨w.heap.size, 5, none⟩ v5).setCell ⟨w.heap.size, 6, none⟩ v6).setCell ⟨w.heap.size, 7, none⟩ v7).cell? ⟨VB, 3, none⟩ = some (.int .i64 0) ∧ ((((((((W7.setCell ⟨w.heap.size, 0, none⟩ v0).setCell ⟨w.heap.size, 1, none⟩ v1).setCell ⟨w.heap.size, 2, none⟩ v2).setCell ⟨w.heap.size, 3, none⟩ v3).setCell ⟨w.heap.size, 4, none⟩ v4).setCell ⟨w.heap.size, 5, none⟩ v5).setCell ⟨w.heap.size, 6, none⟩ v6).setCell ⟨w.heap.size, 7, none⟩ v7).cell? ⟨VB, 4, none⟩ = some (.int .i64 0) ∧ ((((((((W7.setCell ⟨w.heap.size, 0, none⟩ v0).setCell ⟨w.heap.size, 1, none⟩ v1).setCell ⟨w.heap.size, 2, none⟩ v2).setCell ⟨w.heap.size, 3, none⟩ v3).setCell ⟨w.heap.size, 4, none⟩ v4).setCell ⟨w.heap.size, 5, none⟩ v5).setCell ⟨w.heap.size, 6, none⟩ v6).setCell ⟨w.heap.size, 7, none⟩ v7).cell? ⟨VB, 5, none⟩ = some (.string ⟨#[]⟩)) := fun W7 h1 h2 v0 v1 v2 v3 v4 v5 v6 v7 => HS.out _ (h1.other8 N3.out v0 v1 v2 v3 v4 v5 v6 v7) (h2.other8 N4.out v0 v1 v2 v3 v4 v5 v6 v7)
      go_wp2_with fail
      go_region_held3 (fun W => W.cell? ⟨PB, 1, none⟩ = some (.string p1) ∧ W.cell? ⟨VB, 0, none⟩ = some (.int .i64 ka) ∧ W.cell? ⟨VB, 1, none⟩ = some (.int .i64 na) ∧ W.cell? ⟨VB, 2, none⟩ = some (.string sa) ∧ W.cell? ⟨VB, 3, none⟩ = some (.int .i64 0) ∧ W.cell? ⟨VB, 4, none⟩ = some (.int .i64 0) ∧ W.cell? ⟨VB, 5, none⟩ = some (.string ⟨#[]⟩)) (first | with_reducible exact HS0.out | with_reducible exact HS7.out | with_reducible exact HS9.out _ _ _ _ _ _ _ _) (first | (go_at_call 26; refine (clone_any _ _ (by omega)).mono ?_; rintro e w7 ⟨rfl, hb7⟩; have HP7 := Lib.hid (kept hb7 HP.out); have HV7 := Lib.hid (kept hb7 HV.out); have hB7 := Lib.hid (keptB hb7 (w := w) (first_below hB)); have HS7 := Lib.hid (HS.out _ HP7.out HV7.out); have HS9 := Lib.hid (HS8.out _ HP7.out HV7.out); obtain ⟨q0, q1, q2, q3, q4, q5, q6, q7, q8⟩ := (kept hb7 HR.out).c8; obtain ⟨f0, f1, f2, f3, f4, f5, f6, f7⟩ := (kept hb7 HR.out).f8))
      go_wp2_with fail
      exact bodyPost_ret (v := opT K p1 ka na sa 0 0 ⟨#[]⟩ true) (by simp [results, Tryd.results32, go_sem, q0, q1, q2, q3, q4, q5, q6, q7]) rfl ⟨rfl, below8 hB7.out (Nat.le_refl _) _ _ _ _ _ _ _ _⟩

set_option maxRecDepth 100000 in
set_option maxHeartbeats 8000000 in
theorem parse3_e0 (s : ByteArray) (w : World) (hs : s.size ≤ 1000) (hL : LaidD w) (ps : List ByteArray) (p0 p1 p2 : ByteArray) (h0 : ps = [p0, p1, p2]) (K : Int) (ka na : Int) (sa : ByteArray) (er : Int) (he : er ≠ 0) (_hp1 : p1.size ≤ 1000)
    (Hp : Hid (Lib.splitB ⟨#[32]⟩ 0 (min 5 (s.size + 1) - 1) s = ps)) (hK : begunK p0.data.toList = K) (hT : toldN K = 1)
    (Hra : Hid (∀ W : World, LaidV W → Calls Tryd.prog 45 #[.string p2] W fun e W' => e = .returned (.tuple #[.agg #[.int .i64 ka, .int .i64 na, .string sa], .int .i64 er]) ∧ Below W.heap.size W W')) :
    Calls Tryd.prog 32 #[.string s] w fun e w' => e = .returned (noT false) ∧ Below w.heap.size w w' := by
  have hps : ps.length ≤ min 5 (s.size + 1) := by
    rw [← Hp.out]
    have := Lib.splitB_length_le ⟨#[32]⟩ 0 (min 5 (s.size + 1) - 1) s
    omega
  have Hbg := Lib.hid (begun_any p0)
  have Htl := Lib.hid (told_any K)
  rw [hK] at Hbg
  rw [hT] at Htl
  have HL := Lib.hid hL
  clear hK hT
  go_enter Tryd.func32, Tryd.ntmps32
  go_wp2_with fail
  have hB := b0 w (.cells (opC 0 ⟨#[]⟩ 0 0 ⟨#[]⟩ 0 0 ⟨#[]⟩) 28)
  have hR := Lib.hid (blk_new w (opC 0 ⟨#[]⟩ 0 0 ⟨#[]⟩ 0 0 ⟨#[]⟩) 28)
  have hL1 := HL.out.keep hB
  generalize w.alloc (.cells (opC 0 ⟨#[]⟩ 0 0 ⟨#[]⟩ 0 0 ⟨#[]⟩) 28) = W at hR hB hL1 ⊢
  have hS := split_any s W hs hL1
  rw [Hp.out] at hS
  have HS := Lib.hid hS
  clear hS
  have hBw := hR
  refine HS.out.mono ?_
  rintro e w1 ⟨rfl, rfl⟩
  replace hB := ba hB (.cells (Lib.cellsOf ps (min 5 (s.size + 1))) 9)
  replace hR := Lib.hid (hR.out.alloc (.cells (Lib.cellsOf ps (min 5 (s.size + 1))) 9))
  have hPs := Lib.hid (blk_new W (Lib.cellsOf ps (min 5 (s.size + 1))) 9)
  replace hL1 := hL1.keep (b0 W (.cells (Lib.cellsOf ps (min 5 (s.size + 1))) 9))
  clear HS Hp
  have hlw := hBw.out.lt
  generalize W.heap.size = PB at hPs hlw ⊢
  generalize W.alloc (.cells (Lib.cellsOf ps (min 5 (s.size + 1))) 9) = W1 at hR hB hL1 hPs ⊢
  generalize min 5 (s.size + 1) = C at *
  have c0 : W1.cell? ⟨PB, 0, none⟩ = some (.string p0) := by rw [hPs.out.cell 0]; exact cells_at _ _ 0 p0 (by rw [h0]; rfl)
  have hl : ps.length = 3 := by rw [h0]; rfl
  rw [hl] at hps ⊢
  clear hl
  go_wp2_with (first | (go_at_call 44; refine (Hbg.out _).mono ?_; rintro e w2 ⟨rfl, rfl⟩) | (go_at_call 29; refine (Htl.out _).mono ?_; rintro e w2 ⟨rfl, rfl⟩))
  have l1 := hPs.out.lt
  have l2 := hR.out.lt
  have hRel : PRel PB W1.heap.size C ps (valsOf ka na 0 0 sa ⟨#[]⟩ 0) w (W1.alloc (.cells #[.int .i64 0, .int .i64 0, .string ⟨#[]⟩, .int .i64 0, .int .i64 0, .string ⟨#[]⟩] 70)) :=
    ⟨hPs.out.alloc _, blk_new _ _ _, hR.out.alloc _, ba hB _⟩
  generalize W1.alloc (.cells #[.int .i64 0, .int .i64 0, .string ⟨#[]⟩, .int .i64 0, .int .i64 0, .string ⟨#[]⟩] 70) = W3 at hRel ⊢
  clear c0 hPs hR hB hL1 Hbg Htl hL hs
  generalize W1.heap.size = VB at hRel l1 l2 ⊢
  have l3 := l2
  have HRel := Lib.hid hRel
  have n1 : PB ≠ VB := by omega
  have n2 : w.heap.size ≠ VB := by omega
  have N1 := Lib.hid n1
  have N2 := Lib.hid n2
  have N4 : Hid (VB ≠ w.heap.size) := fun e => n2 e.symm
  have N3 : Hid (PB ≠ w.heap.size) := by show _ ≠ _; omega
  clear hRel n1 n2
  go_loopw [27] (fun i wr => ∃ j : Nat, j ≤ 0 ∧ i = .int .i64 j ∧ PRel PB VB C ps (valsOf ka na 0 0 sa ⟨#[]⟩ j) w wr) (fun i _ => 1 - (intOf i).toNat)
  case atStart => exact ⟨0, by omega, rfl, HRel.out⟩
  case round =>
    obtain ⟨j, hj, rfl, hP, hV, hR, hB⟩ := hrel
    have HP := Lib.hid hP
    have HV := Lib.hid hV
    have HR := Lib.hid hR
    clear hP hV hR HRel
    by_cases j0 : j = 0
    · subst j0
      have c0 : wr.cell? ⟨PB, 2, none⟩ = some (.string p2) := by rw [HP.out.cell 2]; exact cells_at _ _ 2 p2 (by rw [h0]; rfl)
      have hLr := (HL.out.keep hB).1
      go_wp2_with fail
      refine (Hra.out _ hLr).mono ?_
      rintro e w5 ⟨rfl, hb5⟩
      replace hB := bt hB hb5
      replace HP := Lib.hid (HP.out.keep hb5)
      replace HR := Lib.hid (HR.out.keep hb5)
      replace HV : Hid (Blk w5 VB #[.int .i64 0, .int .i64 0, .string ⟨#[]⟩, .int .i64 0, .int .i64 0, .string ⟨#[]⟩] 70) := HV.out.keep hb5
      clear c0 hLr hb5
      have he1 : (er != 0) = true := by simpa using he
      obtain ⟨q0, q1, q2, q3, q4, q5, q6, q7, q8⟩ := HR.out.c8
      obtain ⟨f0, f1, f2, f3, f4, f5, f6, f7⟩ := HR.out.f8
      have x1 : ¬ w5.heap.size = w.heap.size := by omega
      have x2 : ¬ w.heap.size = w5.heap.size := by omega
      go_wp2_with fail
      exact bodyPost_ret (v := noT false) (by simp [results, Tryd.results32, go_sem, q0, q1, q2, q3, q4, q5, q6, q7, x2, World.cell?_alloc_old]) rfl ⟨rfl, ba (below8 hB (Nat.le_refl _) _ _ _ _ _ _ _ _) _⟩
    · skip
      exact absurd j0 (by omega)

set_option maxRecDepth 100000 in
set_option maxHeartbeats 8000000 in
theorem parse4_ok (s : ByteArray) (w : World) (hs : s.size ≤ 1000) (hL : LaidD w) (ps : List ByteArray) (p0 p1 p2 p3 : ByteArray) (h0 : ps = [p0, p1, p2, p3]) (K : Int) (ka na : Int) (sa : ByteArray) (kb nb : Int) (sb : ByteArray) (hp1 : p1.size ≤ 1000)
    (Hp : Hid (Lib.splitB ⟨#[32]⟩ 0 (min 5 (s.size + 1) - 1) s = ps)) (hK : begunK p0.data.toList = K) (hT : toldN K = 2)
    (Hra : Hid (∀ W : World, LaidV W → Calls Tryd.prog 45 #[.string p2] W fun e W' => e = .returned (.tuple #[.agg #[.int .i64 ka, .int .i64 na, .string sa], .int .i64 0]) ∧ Below W.heap.size W W'))
    (Hrb : Hid (∀ W : World, LaidV W → Calls Tryd.prog 45 #[.string p3] W fun e W' => e = .returned (.tuple #[.agg #[.int .i64 kb, .int .i64 nb, .string sb], .int .i64 0]) ∧ Below W.heap.size W W')) :
    Calls Tryd.prog 32 #[.string s] w fun e w' => e = .returned (opT K p1 ka na sa kb nb sb true) ∧ Below w.heap.size w w' := by
  have hps : ps.length ≤ min 5 (s.size + 1) := by
    rw [← Hp.out]
    have := Lib.splitB_length_le ⟨#[32]⟩ 0 (min 5 (s.size + 1) - 1) s
    omega
  have Hbg := Lib.hid (begun_any p0)
  have Htl := Lib.hid (told_any K)
  rw [hK] at Hbg
  rw [hT] at Htl
  have HL := Lib.hid hL
  clear hK hT
  go_enter Tryd.func32, Tryd.ntmps32
  go_wp2_with fail
  have hB := b0 w (.cells (opC 0 ⟨#[]⟩ 0 0 ⟨#[]⟩ 0 0 ⟨#[]⟩) 28)
  have hR := Lib.hid (blk_new w (opC 0 ⟨#[]⟩ 0 0 ⟨#[]⟩ 0 0 ⟨#[]⟩) 28)
  have hL1 := HL.out.keep hB
  generalize w.alloc (.cells (opC 0 ⟨#[]⟩ 0 0 ⟨#[]⟩ 0 0 ⟨#[]⟩) 28) = W at hR hB hL1 ⊢
  have hS := split_any s W hs hL1
  rw [Hp.out] at hS
  have HS := Lib.hid hS
  clear hS
  have hBw := hR
  refine HS.out.mono ?_
  rintro e w1 ⟨rfl, rfl⟩
  replace hB := ba hB (.cells (Lib.cellsOf ps (min 5 (s.size + 1))) 9)
  replace hR := Lib.hid (hR.out.alloc (.cells (Lib.cellsOf ps (min 5 (s.size + 1))) 9))
  have hPs := Lib.hid (blk_new W (Lib.cellsOf ps (min 5 (s.size + 1))) 9)
  replace hL1 := hL1.keep (b0 W (.cells (Lib.cellsOf ps (min 5 (s.size + 1))) 9))
  clear HS Hp
  have hlw := hBw.out.lt
  generalize W.heap.size = PB at hPs hlw ⊢
  generalize W.alloc (.cells (Lib.cellsOf ps (min 5 (s.size + 1))) 9) = W1 at hR hB hL1 hPs ⊢
  generalize min 5 (s.size + 1) = C at *
  have c0 : W1.cell? ⟨PB, 0, none⟩ = some (.string p0) := by rw [hPs.out.cell 0]; exact cells_at _ _ 0 p0 (by rw [h0]; rfl)
  have hl : ps.length = 4 := by rw [h0]; rfl
  rw [hl] at hps ⊢
  clear hl
  go_wp2_with (first | (go_at_call 44; refine (Hbg.out _).mono ?_; rintro e w2 ⟨rfl, rfl⟩) | (go_at_call 29; refine (Htl.out _).mono ?_; rintro e w2 ⟨rfl, rfl⟩))
  have l1 := hPs.out.lt
  have l2 := hR.out.lt
  have hRel : PRel PB W1.heap.size C ps (valsOf ka na kb nb sa sb 0) w (W1.alloc (.cells #[.int .i64 0, .int .i64 0, .string ⟨#[]⟩, .int .i64 0, .int .i64 0, .string ⟨#[]⟩] 70)) :=
    ⟨hPs.out.alloc _, blk_new _ _ _, hR.out.alloc _, ba hB _⟩
  generalize W1.alloc (.cells #[.int .i64 0, .int .i64 0, .string ⟨#[]⟩, .int .i64 0, .int .i64 0, .string ⟨#[]⟩] 70) = W3 at hRel ⊢
  clear c0 hPs hR hB hL1 Hbg Htl hL hs
  generalize W1.heap.size = VB at hRel l1 l2 ⊢
  have l3 := l2
  have HRel := Lib.hid hRel
  have n1 : PB ≠ VB := by omega
  have n2 : w.heap.size ≠ VB := by omega
  have N1 := Lib.hid n1
  have N2 := Lib.hid n2
  have N4 : Hid (VB ≠ w.heap.size) := fun e => n2 e.symm
  have N3 : Hid (PB ≠ w.heap.size) := by show _ ≠ _; omega
  clear hRel n1 n2
  go_loopw [27] (fun i wr => ∃ j : Nat, j ≤ 2 ∧ i = .int .i64 j ∧ PRel PB VB C ps (valsOf ka na kb nb sa sb j) w wr) (fun i _ => 2 - (intOf i).toNat)
  case atStart => exact ⟨0, by omega, rfl, HRel.out⟩
  case round =>
    obtain ⟨j, hj, rfl, hP, hV, hR, hB⟩ := hrel
    have HP := Lib.hid hP
    have HV := Lib.hid hV
    have HR := Lib.hid hR
    clear hP hV hR HRel
    by_cases j0 : j = 0
    · subst j0
      have c0 : wr.cell? ⟨PB, 2, none⟩ = some (.string p2) := by rw [HP.out.cell 2]; exact cells_at _ _ 2 p2 (by rw [h0]; rfl)
      have hLr := (HL.out.keep hB).1
      go_wp2_with fail
      refine (Hra.out _ hLr).mono ?_
      rintro e w5 ⟨rfl, hb5⟩
      replace hB := bt hB hb5
      replace HP := Lib.hid (HP.out.keep hb5)
      replace HR := Lib.hid (HR.out.keep hb5)
      replace HV : Hid (Blk w5 VB #[.int .i64 0, .int .i64 0, .string ⟨#[]⟩, .int .i64 0, .int .i64 0, .string ⟨#[]⟩] 70) := HV.out.keep hb5
      clear c0 hLr hb5
      obtain ⟨q0, q1, q2, q3, q4, q5, q6⟩ := HV.out.c6
      obtain ⟨f0, f1, f2, f3, f4, f5⟩ := HV.out.f6
      have x1 : ¬ w5.heap.size = VB := by omega
      have x2 : ¬ VB = w5.heap.size := by omega
      go_wp2_with fail
      go_roundw
      case rel =>
        refine ⟨1, by omega, by go_num, ?_, ?_, ?_, ?_⟩
        · exact (((HP.out.other N1.out _ _).other N1.out _ _).other N1.out _ _).alloc _
        · have h := (((HV.out.set 0 (.int .i64 ka)).set 1 (.int .i64 na)).set 2 (.string sa)).alloc (.cells #[.int .i64 ka, .int .i64 na, .string sa] 26)
          exact h
        · exact (((HR.out.other N2.out _ _).other N2.out _ _).other N2.out _ _).alloc _
        · exact ba (((hB.setCell (p := ⟨VB, 0, none⟩) (Nat.le_of_lt l3) _).setCell (p := ⟨VB, 1, none⟩) (Nat.le_of_lt l3) _).setCell (p := ⟨VB, 2, none⟩) (Nat.le_of_lt l3) _) _
      case measure => simp [intOf] <;> omega
    · skip
      by_cases j1 : j = 1
      · subst j1
        have c0 : wr.cell? ⟨PB, 3, none⟩ = some (.string p3) := by rw [HP.out.cell 3]; exact cells_at _ _ 3 p3 (by rw [h0]; rfl)
        have hLr := (HL.out.keep hB).1
        go_wp2_with fail
        refine (Hrb.out _ hLr).mono ?_
        rintro e w5 ⟨rfl, hb5⟩
        replace hB := bt hB hb5
        replace HP := Lib.hid (HP.out.keep hb5)
        replace HR := Lib.hid (HR.out.keep hb5)
        replace HV : Hid (Blk w5 VB #[.int .i64 ka, .int .i64 na, .string sa, .int .i64 0, .int .i64 0, .string ⟨#[]⟩] 70) := HV.out.keep hb5
        clear c0 hLr hb5
        obtain ⟨q0, q1, q2, q3, q4, q5, q6⟩ := HV.out.c6
        obtain ⟨f0, f1, f2, f3, f4, f5⟩ := HV.out.f6
        have x1 : ¬ w5.heap.size = VB := by omega
        have x2 : ¬ VB = w5.heap.size := by omega
        go_wp2_with fail
        go_roundw
        case rel =>
          refine ⟨2, by omega, by go_num, ?_, ?_, ?_, ?_⟩
          · exact (((HP.out.other N1.out _ _).other N1.out _ _).other N1.out _ _).alloc _
          · have h := (((HV.out.set 3 (.int .i64 kb)).set 4 (.int .i64 nb)).set 5 (.string sb)).alloc (.cells #[.int .i64 kb, .int .i64 nb, .string sb] 26)
            exact h
          · exact (((HR.out.other N2.out _ _).other N2.out _ _).other N2.out _ _).alloc _
          · exact ba (((hB.setCell (p := ⟨VB, 3, none⟩) (Nat.le_of_lt l3) _).setCell (p := ⟨VB, 4, none⟩) (Nat.le_of_lt l3) _).setCell (p := ⟨VB, 5, none⟩) (Nat.le_of_lt l3) _) _
        case measure => simp [intOf] <;> omega
      · skip
        obtain rfl : j = 2 := by omega
        replace HV : Hid (Blk wr VB #[.int .i64 ka, .int .i64 na, .string sa, .int .i64 kb, .int .i64 nb, .string sb] 70) := HV.out
        have hS : ∀ W : World, Blk W PB (Lib.cellsOf ps C) 9 → Blk W VB #[.int .i64 ka, .int .i64 na, .string sa, .int .i64 kb, .int .i64 nb, .string sb] 70 → (W.cell? ⟨PB, 1, none⟩ = some (.string p1) ∧ W.cell? ⟨VB, 0, none⟩ = some (.int .i64 ka) ∧ W.cell? ⟨VB, 1, none⟩ = some (.int .i64 na) ∧ W.cell? ⟨VB, 2, none⟩ = some (.string sa) ∧ W.cell? ⟨VB, 3, none⟩ = some (.int .i64 kb) ∧ W.cell? ⟨VB, 4, none⟩ = some (.int .i64 nb) ∧ W.cell? ⟨VB, 5, none⟩ = some (.string sb)) := by
          intro W h1 h2
          exact ⟨by rw [h1.cell 1]; exact cells_at _ _ 1 p1 (by rw [h0]; rfl), h2.cell 0, h2.cell 1, h2.cell 2, h2.cell 3, h2.cell 4, h2.cell 5⟩
        have HS := Lib.hid hS
        clear hS
        have HS0 := Lib.hid (HS.out wr.drew HP.out HV.out)
        have HS8 : Hid (∀ (W7 : World), Blk W7 PB (Lib.cellsOf ps C) 9 → Blk W7 VB #[.int .i64 ka, .int .i64 na, .string sa, .int .i64 kb, .int .i64 nb, .string sb] 70 → ∀ v0 v1 v2 v3 v4 v5 v6 v7 : Value, ((((((((W7.setCell ⟨w.heap.size, 0, none⟩ v0).setCell ⟨w.heap.size, 1, none⟩ v1).setCell ⟨w.heap.size, 2, none⟩ v2).setCell ⟨w.heap.size, 3, none⟩ v3).setCell ⟨w.heap.size, 4, none⟩ v4).setCell ⟨w.heap.size, 5, none⟩ v5).setCell ⟨w.heap.size, 6, none⟩ v6).setCell ⟨w.heap.size, 7, none⟩ v7).cell? ⟨PB, 1, none⟩ = some (.string p1) ∧ ((((((((W7.setCell ⟨w.heap.size, 0, none⟩ v0).setCell ⟨w.heap.size, 1, none⟩ v1).setCell ⟨w.heap.size, 2, none⟩ v2).setCell ⟨w.heap.size, 3, none⟩ v3).setCell ⟨w.heap.size, 4, none⟩ v4).setCell ⟨w.heap.size, 5, none⟩ v5).setCell ⟨w.heap.size, 6, none⟩ v6).setCell ⟨w.heap.size, 7, none⟩ v7).cell? ⟨VB, 0, none⟩ = some (.int .i64 ka) ∧ ((((((((W7.setCell ⟨w.heap.size, 0, none⟩ v0).setCell ⟨w.heap.size, 1, none⟩ v1).setCell ⟨w.heap.size, 2, none⟩ v2).setCell ⟨w.heap.size, 3, none⟩ v3).setCell ⟨w.heap.size, 4, none⟩ v4).setCell ⟨w.heap.size, 5, none⟩ v5).setCell ⟨w.heap.size, 6, none⟩ v6).setCell ⟨w.heap.size, 7, none⟩ v7).cell? ⟨VB, 1, none⟩ = some (.int .i64 na) ∧ ((((((((W7.setCell ⟨w.heap.size, 0, none⟩ v0).setCell ⟨w.heap.size, 1, none⟩ v1).setCell ⟨w.heap.size, 2, none⟩ v2).setCell ⟨w.heap.size, 3, none⟩ v3).setCell ⟨w.heap.size, 4, none⟩ v4).setCell ⟨w.heap.size, 5, none⟩ v5).setCell ⟨w.heap.size, 6, none⟩ v6).setCell ⟨w.heap.size, 7, none⟩ v7).cell? ⟨VB, 2, none⟩ = some (.string sa) ∧ ((((((((W7.setCell ⟨w.heap.size, 0, none⟩ v0).setCell ⟨w.heap.size, 1, none⟩ v1).setCell ⟨w.heap.size, 2, none⟩ v2).setCell ⟨w.heap.size, 3, none⟩ v3).setCell ⟨w.heap.size, 4, none⟩ v4).setCell ⟨w.heap.size, 5, none⟩ v5).setCell ⟨w.heap.size, 6, none⟩ v6).setCell ⟨w.heap.size, 7, none⟩ v7).cell? ⟨VB, 3, none⟩ = some (.int .i64 kb) ∧ ((((((((W7.setCell ⟨w.heap.size, 0, none⟩ v0).setCell ⟨w.heap.size, 1, none⟩ v1).setCell ⟨w.heap.size, 2, none⟩ v2).setCell ⟨w.heap.size, 3, none⟩ v3).setCell ⟨w.heap.size, 4, none⟩ v4).setCell ⟨w.heap.size, 5, none⟩ v5).setCell ⟨w.heap.size, 6, none⟩ v6).setCell ⟨w.heap.size, 7, none⟩ v7).cell? ⟨VB, 4, none⟩ = some (.int .i64 nb) ∧ ((((((((W7.setCell ⟨w.heap.size, 0, none⟩ v0).setCell ⟨w.heap.size, 1, none⟩ v1).setCell ⟨w.heap.size, 2, none⟩ v2).setCell ⟨w.heap.size, 3, none⟩ v3).setCell ⟨w.heap.size, 4, none⟩ v4).setCell ⟨w.heap.size, 5, none⟩ v5).setCell ⟨w.heap.size, 6, none⟩ v6).setCell ⟨w.heap.size, 7, none⟩ v7).cell? ⟨VB, 5, none⟩ = some (.string sb)) := fun W7 h1 h2 v0 v1 v2 v3 v4 v5 v6 v7 => HS.out _ (h1.other8 N3.out v0 v1 v2 v3 v4 v5 v6 v7) (h2.other8 N4.out v0 v1 v2 v3 v4 v5 v6 v7)
        go_wp2_with fail
        go_region_held3 (fun W => W.cell? ⟨PB, 1, none⟩ = some (.string p1) ∧ W.cell? ⟨VB, 0, none⟩ = some (.int .i64 ka) ∧ W.cell? ⟨VB, 1, none⟩ = some (.int .i64 na) ∧ W.cell? ⟨VB, 2, none⟩ = some (.string sa) ∧ W.cell? ⟨VB, 3, none⟩ = some (.int .i64 kb) ∧ W.cell? ⟨VB, 4, none⟩ = some (.int .i64 nb) ∧ W.cell? ⟨VB, 5, none⟩ = some (.string sb)) (first | with_reducible exact HS0.out | with_reducible exact HS7.out | with_reducible exact HS9.out _ _ _ _ _ _ _ _) (first | (go_at_call 26; refine (clone_any _ _ (by omega)).mono ?_; rintro e w7 ⟨rfl, hb7⟩; have HP7 := Lib.hid (kept hb7 HP.out); have HV7 := Lib.hid (kept hb7 HV.out); have hB7 := Lib.hid (keptB hb7 (w := w) (first_below hB)); have HS7 := Lib.hid (HS.out _ HP7.out HV7.out); have HS9 := Lib.hid (HS8.out _ HP7.out HV7.out); obtain ⟨q0, q1, q2, q3, q4, q5, q6, q7, q8⟩ := (kept hb7 HR.out).c8; obtain ⟨f0, f1, f2, f3, f4, f5, f6, f7⟩ := (kept hb7 HR.out).f8))
        go_wp2_with fail
        exact bodyPost_ret (v := opT K p1 ka na sa kb nb sb true) (by simp [results, Tryd.results32, go_sem, q0, q1, q2, q3, q4, q5, q6, q7]) rfl ⟨rfl, below8 hB7.out (Nat.le_refl _) _ _ _ _ _ _ _ _⟩

set_option maxRecDepth 100000 in
set_option maxHeartbeats 8000000 in
theorem parse4_e0 (s : ByteArray) (w : World) (hs : s.size ≤ 1000) (hL : LaidD w) (ps : List ByteArray) (p0 p1 p2 p3 : ByteArray) (h0 : ps = [p0, p1, p2, p3]) (K : Int) (ka na : Int) (sa : ByteArray) (er : Int) (he : er ≠ 0) (_hp1 : p1.size ≤ 1000)
    (Hp : Hid (Lib.splitB ⟨#[32]⟩ 0 (min 5 (s.size + 1) - 1) s = ps)) (hK : begunK p0.data.toList = K) (hT : toldN K = 2)
    (Hra : Hid (∀ W : World, LaidV W → Calls Tryd.prog 45 #[.string p2] W fun e W' => e = .returned (.tuple #[.agg #[.int .i64 ka, .int .i64 na, .string sa], .int .i64 er]) ∧ Below W.heap.size W W')) :
    Calls Tryd.prog 32 #[.string s] w fun e w' => e = .returned (noT false) ∧ Below w.heap.size w w' := by
  have hps : ps.length ≤ min 5 (s.size + 1) := by
    rw [← Hp.out]
    have := Lib.splitB_length_le ⟨#[32]⟩ 0 (min 5 (s.size + 1) - 1) s
    omega
  have Hbg := Lib.hid (begun_any p0)
  have Htl := Lib.hid (told_any K)
  rw [hK] at Hbg
  rw [hT] at Htl
  have HL := Lib.hid hL
  clear hK hT
  go_enter Tryd.func32, Tryd.ntmps32
  go_wp2_with fail
  have hB := b0 w (.cells (opC 0 ⟨#[]⟩ 0 0 ⟨#[]⟩ 0 0 ⟨#[]⟩) 28)
  have hR := Lib.hid (blk_new w (opC 0 ⟨#[]⟩ 0 0 ⟨#[]⟩ 0 0 ⟨#[]⟩) 28)
  have hL1 := HL.out.keep hB
  generalize w.alloc (.cells (opC 0 ⟨#[]⟩ 0 0 ⟨#[]⟩ 0 0 ⟨#[]⟩) 28) = W at hR hB hL1 ⊢
  have hS := split_any s W hs hL1
  rw [Hp.out] at hS
  have HS := Lib.hid hS
  clear hS
  have hBw := hR
  refine HS.out.mono ?_
  rintro e w1 ⟨rfl, rfl⟩
  replace hB := ba hB (.cells (Lib.cellsOf ps (min 5 (s.size + 1))) 9)
  replace hR := Lib.hid (hR.out.alloc (.cells (Lib.cellsOf ps (min 5 (s.size + 1))) 9))
  have hPs := Lib.hid (blk_new W (Lib.cellsOf ps (min 5 (s.size + 1))) 9)
  replace hL1 := hL1.keep (b0 W (.cells (Lib.cellsOf ps (min 5 (s.size + 1))) 9))
  clear HS Hp
  have hlw := hBw.out.lt
  generalize W.heap.size = PB at hPs hlw ⊢
  generalize W.alloc (.cells (Lib.cellsOf ps (min 5 (s.size + 1))) 9) = W1 at hR hB hL1 hPs ⊢
  generalize min 5 (s.size + 1) = C at *
  have c0 : W1.cell? ⟨PB, 0, none⟩ = some (.string p0) := by rw [hPs.out.cell 0]; exact cells_at _ _ 0 p0 (by rw [h0]; rfl)
  have hl : ps.length = 4 := by rw [h0]; rfl
  rw [hl] at hps ⊢
  clear hl
  go_wp2_with (first | (go_at_call 44; refine (Hbg.out _).mono ?_; rintro e w2 ⟨rfl, rfl⟩) | (go_at_call 29; refine (Htl.out _).mono ?_; rintro e w2 ⟨rfl, rfl⟩))
  have l1 := hPs.out.lt
  have l2 := hR.out.lt
  have hRel : PRel PB W1.heap.size C ps (valsOf ka na 0 0 sa ⟨#[]⟩ 0) w (W1.alloc (.cells #[.int .i64 0, .int .i64 0, .string ⟨#[]⟩, .int .i64 0, .int .i64 0, .string ⟨#[]⟩] 70)) :=
    ⟨hPs.out.alloc _, blk_new _ _ _, hR.out.alloc _, ba hB _⟩
  generalize W1.alloc (.cells #[.int .i64 0, .int .i64 0, .string ⟨#[]⟩, .int .i64 0, .int .i64 0, .string ⟨#[]⟩] 70) = W3 at hRel ⊢
  clear c0 hPs hR hB hL1 Hbg Htl hL hs
  generalize W1.heap.size = VB at hRel l1 l2 ⊢
  have l3 := l2
  have HRel := Lib.hid hRel
  have n1 : PB ≠ VB := by omega
  have n2 : w.heap.size ≠ VB := by omega
  have N1 := Lib.hid n1
  have N2 := Lib.hid n2
  have N4 : Hid (VB ≠ w.heap.size) := fun e => n2 e.symm
  have N3 : Hid (PB ≠ w.heap.size) := by show _ ≠ _; omega
  clear hRel n1 n2
  go_loopw [27] (fun i wr => ∃ j : Nat, j ≤ 0 ∧ i = .int .i64 j ∧ PRel PB VB C ps (valsOf ka na 0 0 sa ⟨#[]⟩ j) w wr) (fun i _ => 2 - (intOf i).toNat)
  case atStart => exact ⟨0, by omega, rfl, HRel.out⟩
  case round =>
    obtain ⟨j, hj, rfl, hP, hV, hR, hB⟩ := hrel
    have HP := Lib.hid hP
    have HV := Lib.hid hV
    have HR := Lib.hid hR
    clear hP hV hR HRel
    by_cases j0 : j = 0
    · subst j0
      have c0 : wr.cell? ⟨PB, 2, none⟩ = some (.string p2) := by rw [HP.out.cell 2]; exact cells_at _ _ 2 p2 (by rw [h0]; rfl)
      have hLr := (HL.out.keep hB).1
      go_wp2_with fail
      refine (Hra.out _ hLr).mono ?_
      rintro e w5 ⟨rfl, hb5⟩
      replace hB := bt hB hb5
      replace HP := Lib.hid (HP.out.keep hb5)
      replace HR := Lib.hid (HR.out.keep hb5)
      replace HV : Hid (Blk w5 VB #[.int .i64 0, .int .i64 0, .string ⟨#[]⟩, .int .i64 0, .int .i64 0, .string ⟨#[]⟩] 70) := HV.out.keep hb5
      clear c0 hLr hb5
      have he1 : (er != 0) = true := by simpa using he
      obtain ⟨q0, q1, q2, q3, q4, q5, q6, q7, q8⟩ := HR.out.c8
      obtain ⟨f0, f1, f2, f3, f4, f5, f6, f7⟩ := HR.out.f8
      have x1 : ¬ w5.heap.size = w.heap.size := by omega
      have x2 : ¬ w.heap.size = w5.heap.size := by omega
      go_wp2_with fail
      exact bodyPost_ret (v := noT false) (by simp [results, Tryd.results32, go_sem, q0, q1, q2, q3, q4, q5, q6, q7, x2, World.cell?_alloc_old]) rfl ⟨rfl, ba (below8 hB (Nat.le_refl _) _ _ _ _ _ _ _ _) _⟩
    · skip
      exact absurd j0 (by omega)

set_option maxRecDepth 100000 in
set_option maxHeartbeats 8000000 in
theorem parse4_e1 (s : ByteArray) (w : World) (hs : s.size ≤ 1000) (hL : LaidD w) (ps : List ByteArray) (p0 p1 p2 p3 : ByteArray) (h0 : ps = [p0, p1, p2, p3]) (K : Int) (ka na : Int) (sa : ByteArray) (kb nb : Int) (sb : ByteArray) (er : Int) (he : er ≠ 0) (_hp1 : p1.size ≤ 1000)
    (Hp : Hid (Lib.splitB ⟨#[32]⟩ 0 (min 5 (s.size + 1) - 1) s = ps)) (hK : begunK p0.data.toList = K) (hT : toldN K = 2)
    (Hra : Hid (∀ W : World, LaidV W → Calls Tryd.prog 45 #[.string p2] W fun e W' => e = .returned (.tuple #[.agg #[.int .i64 ka, .int .i64 na, .string sa], .int .i64 0]) ∧ Below W.heap.size W W'))
    (Hrb : Hid (∀ W : World, LaidV W → Calls Tryd.prog 45 #[.string p3] W fun e W' => e = .returned (.tuple #[.agg #[.int .i64 kb, .int .i64 nb, .string sb], .int .i64 er]) ∧ Below W.heap.size W W')) :
    Calls Tryd.prog 32 #[.string s] w fun e w' => e = .returned (noT false) ∧ Below w.heap.size w w' := by
  have hps : ps.length ≤ min 5 (s.size + 1) := by
    rw [← Hp.out]
    have := Lib.splitB_length_le ⟨#[32]⟩ 0 (min 5 (s.size + 1) - 1) s
    omega
  have Hbg := Lib.hid (begun_any p0)
  have Htl := Lib.hid (told_any K)
  rw [hK] at Hbg
  rw [hT] at Htl
  have HL := Lib.hid hL
  clear hK hT
  go_enter Tryd.func32, Tryd.ntmps32
  go_wp2_with fail
  have hB := b0 w (.cells (opC 0 ⟨#[]⟩ 0 0 ⟨#[]⟩ 0 0 ⟨#[]⟩) 28)
  have hR := Lib.hid (blk_new w (opC 0 ⟨#[]⟩ 0 0 ⟨#[]⟩ 0 0 ⟨#[]⟩) 28)
  have hL1 := HL.out.keep hB
  generalize w.alloc (.cells (opC 0 ⟨#[]⟩ 0 0 ⟨#[]⟩ 0 0 ⟨#[]⟩) 28) = W at hR hB hL1 ⊢
  have hS := split_any s W hs hL1
  rw [Hp.out] at hS
  have HS := Lib.hid hS
  clear hS
  have hBw := hR
  refine HS.out.mono ?_
  rintro e w1 ⟨rfl, rfl⟩
  replace hB := ba hB (.cells (Lib.cellsOf ps (min 5 (s.size + 1))) 9)
  replace hR := Lib.hid (hR.out.alloc (.cells (Lib.cellsOf ps (min 5 (s.size + 1))) 9))
  have hPs := Lib.hid (blk_new W (Lib.cellsOf ps (min 5 (s.size + 1))) 9)
  replace hL1 := hL1.keep (b0 W (.cells (Lib.cellsOf ps (min 5 (s.size + 1))) 9))
  clear HS Hp
  have hlw := hBw.out.lt
  generalize W.heap.size = PB at hPs hlw ⊢
  generalize W.alloc (.cells (Lib.cellsOf ps (min 5 (s.size + 1))) 9) = W1 at hR hB hL1 hPs ⊢
  generalize min 5 (s.size + 1) = C at *
  have c0 : W1.cell? ⟨PB, 0, none⟩ = some (.string p0) := by rw [hPs.out.cell 0]; exact cells_at _ _ 0 p0 (by rw [h0]; rfl)
  have hl : ps.length = 4 := by rw [h0]; rfl
  rw [hl] at hps ⊢
  clear hl
  go_wp2_with (first | (go_at_call 44; refine (Hbg.out _).mono ?_; rintro e w2 ⟨rfl, rfl⟩) | (go_at_call 29; refine (Htl.out _).mono ?_; rintro e w2 ⟨rfl, rfl⟩))
  have l1 := hPs.out.lt
  have l2 := hR.out.lt
  have hRel : PRel PB W1.heap.size C ps (valsOf ka na kb nb sa sb 0) w (W1.alloc (.cells #[.int .i64 0, .int .i64 0, .string ⟨#[]⟩, .int .i64 0, .int .i64 0, .string ⟨#[]⟩] 70)) :=
    ⟨hPs.out.alloc _, blk_new _ _ _, hR.out.alloc _, ba hB _⟩
  generalize W1.alloc (.cells #[.int .i64 0, .int .i64 0, .string ⟨#[]⟩, .int .i64 0, .int .i64 0, .string ⟨#[]⟩] 70) = W3 at hRel ⊢
  clear c0 hPs hR hB hL1 Hbg Htl hL hs
  generalize W1.heap.size = VB at hRel l1 l2 ⊢
  have l3 := l2
  have HRel := Lib.hid hRel
  have n1 : PB ≠ VB := by omega
  have n2 : w.heap.size ≠ VB := by omega
  have N1 := Lib.hid n1
  have N2 := Lib.hid n2
  have N4 : Hid (VB ≠ w.heap.size) := fun e => n2 e.symm
  have N3 : Hid (PB ≠ w.heap.size) := by show _ ≠ _; omega
  clear hRel n1 n2
  go_loopw [27] (fun i wr => ∃ j : Nat, j ≤ 1 ∧ i = .int .i64 j ∧ PRel PB VB C ps (valsOf ka na kb nb sa sb j) w wr) (fun i _ => 2 - (intOf i).toNat)
  case atStart => exact ⟨0, by omega, rfl, HRel.out⟩
  case round =>
    obtain ⟨j, hj, rfl, hP, hV, hR, hB⟩ := hrel
    have HP := Lib.hid hP
    have HV := Lib.hid hV
    have HR := Lib.hid hR
    clear hP hV hR HRel
    by_cases j0 : j = 0
    · subst j0
      have c0 : wr.cell? ⟨PB, 2, none⟩ = some (.string p2) := by rw [HP.out.cell 2]; exact cells_at _ _ 2 p2 (by rw [h0]; rfl)
      have hLr := (HL.out.keep hB).1
      go_wp2_with fail
      refine (Hra.out _ hLr).mono ?_
      rintro e w5 ⟨rfl, hb5⟩
      replace hB := bt hB hb5
      replace HP := Lib.hid (HP.out.keep hb5)
      replace HR := Lib.hid (HR.out.keep hb5)
      replace HV : Hid (Blk w5 VB #[.int .i64 0, .int .i64 0, .string ⟨#[]⟩, .int .i64 0, .int .i64 0, .string ⟨#[]⟩] 70) := HV.out.keep hb5
      clear c0 hLr hb5
      obtain ⟨q0, q1, q2, q3, q4, q5, q6⟩ := HV.out.c6
      obtain ⟨f0, f1, f2, f3, f4, f5⟩ := HV.out.f6
      have x1 : ¬ w5.heap.size = VB := by omega
      have x2 : ¬ VB = w5.heap.size := by omega
      go_wp2_with fail
      go_roundw
      case rel =>
        refine ⟨1, by omega, by go_num, ?_, ?_, ?_, ?_⟩
        · exact (((HP.out.other N1.out _ _).other N1.out _ _).other N1.out _ _).alloc _
        · have h := (((HV.out.set 0 (.int .i64 ka)).set 1 (.int .i64 na)).set 2 (.string sa)).alloc (.cells #[.int .i64 ka, .int .i64 na, .string sa] 26)
          exact h
        · exact (((HR.out.other N2.out _ _).other N2.out _ _).other N2.out _ _).alloc _
        · exact ba (((hB.setCell (p := ⟨VB, 0, none⟩) (Nat.le_of_lt l3) _).setCell (p := ⟨VB, 1, none⟩) (Nat.le_of_lt l3) _).setCell (p := ⟨VB, 2, none⟩) (Nat.le_of_lt l3) _) _
      case measure => simp [intOf] <;> omega
    · skip
      by_cases j1 : j = 1
      · subst j1
        have c0 : wr.cell? ⟨PB, 3, none⟩ = some (.string p3) := by rw [HP.out.cell 3]; exact cells_at _ _ 3 p3 (by rw [h0]; rfl)
        have hLr := (HL.out.keep hB).1
        go_wp2_with fail
        refine (Hrb.out _ hLr).mono ?_
        rintro e w5 ⟨rfl, hb5⟩
        replace hB := bt hB hb5
        replace HP := Lib.hid (HP.out.keep hb5)
        replace HR := Lib.hid (HR.out.keep hb5)
        replace HV : Hid (Blk w5 VB #[.int .i64 ka, .int .i64 na, .string sa, .int .i64 0, .int .i64 0, .string ⟨#[]⟩] 70) := HV.out.keep hb5
        clear c0 hLr hb5
        have he1 : (er != 0) = true := by simpa using he
        obtain ⟨q0, q1, q2, q3, q4, q5, q6, q7, q8⟩ := HR.out.c8
        obtain ⟨f0, f1, f2, f3, f4, f5, f6, f7⟩ := HR.out.f8
        have x1 : ¬ w5.heap.size = w.heap.size := by omega
        have x2 : ¬ w.heap.size = w5.heap.size := by omega
        go_wp2_with fail
        exact bodyPost_ret (v := noT false) (by simp [results, Tryd.results32, go_sem, q0, q1, q2, q3, q4, q5, q6, q7, x2, World.cell?_alloc_old]) rfl ⟨rfl, ba (below8 hB (Nat.le_refl _) _ _ _ _ _ _ _ _) _⟩
      · skip
        exact absurd j1 (by omega)

end Go.Proofs.YtmilcgikncecnaaDoor
