/-
  WHAT IS PROVED: fresh.Write answers the same write; roll.Writes answers a row of its own of the lines' writes. Conditions: those typed in each theorem.
-/
import Derived.Test.YtpjleeeligahaaaGreatDoorRLasts2
import Derived.Test.YtpjleeeligahaaaGreatDoorGQ17
namespace Go.Proofs.YtpjleeeligahaaaGreatDoor
open Go.RowKit

theorem set10 {W : World} {b : Nat} {u0 u1 u2 u3 u4 u5 u6 u7 u8 u9 : Value} {t : TypeId} (h : Blk W b #[u0, u1, u2, u3, u4, u5, u6, u7, u8, u9] t) (v0 v1 v2 v3 v4 v5 v6 v7 v8 v9 : Value) : Blk ((((((((((W.setCell ⟨b, 0, none⟩ v0).setCell ⟨b, 1, none⟩ v1).setCell ⟨b, 2, none⟩ v2).setCell ⟨b, 3, none⟩ v3).setCell ⟨b, 4, none⟩ v4).setCell ⟨b, 5, none⟩ v5).setCell ⟨b, 6, none⟩ v6).setCell ⟨b, 7, none⟩ v7).setCell ⟨b, 8, none⟩ v8).setCell ⟨b, 9, none⟩ v9) b #[v0, v1, v2, v3, v4, v5, v6, v7, v8, v9] t := by
  have h0 : Blk (W.setCell ⟨b, 0, none⟩ v0) b #[v0, u1, u2, u3, u4, u5, u6, u7, u8, u9] t := h.set 0 v0
  have h1 : Blk ((W.setCell ⟨b, 0, none⟩ v0).setCell ⟨b, 1, none⟩ v1) b #[v0, v1, u2, u3, u4, u5, u6, u7, u8, u9] t := h0.set 1 v1
  have h2 : Blk (((W.setCell ⟨b, 0, none⟩ v0).setCell ⟨b, 1, none⟩ v1).setCell ⟨b, 2, none⟩ v2) b #[v0, v1, v2, u3, u4, u5, u6, u7, u8, u9] t := h1.set 2 v2
  have h3 : Blk ((((W.setCell ⟨b, 0, none⟩ v0).setCell ⟨b, 1, none⟩ v1).setCell ⟨b, 2, none⟩ v2).setCell ⟨b, 3, none⟩ v3) b #[v0, v1, v2, v3, u4, u5, u6, u7, u8, u9] t := h2.set 3 v3
  have h4 : Blk (((((W.setCell ⟨b, 0, none⟩ v0).setCell ⟨b, 1, none⟩ v1).setCell ⟨b, 2, none⟩ v2).setCell ⟨b, 3, none⟩ v3).setCell ⟨b, 4, none⟩ v4) b #[v0, v1, v2, v3, v4, u5, u6, u7, u8, u9] t := h3.set 4 v4
  have h5 : Blk ((((((W.setCell ⟨b, 0, none⟩ v0).setCell ⟨b, 1, none⟩ v1).setCell ⟨b, 2, none⟩ v2).setCell ⟨b, 3, none⟩ v3).setCell ⟨b, 4, none⟩ v4).setCell ⟨b, 5, none⟩ v5) b #[v0, v1, v2, v3, v4, v5, u6, u7, u8, u9] t := h4.set 5 v5
  have h6 : Blk (((((((W.setCell ⟨b, 0, none⟩ v0).setCell ⟨b, 1, none⟩ v1).setCell ⟨b, 2, none⟩ v2).setCell ⟨b, 3, none⟩ v3).setCell ⟨b, 4, none⟩ v4).setCell ⟨b, 5, none⟩ v5).setCell ⟨b, 6, none⟩ v6) b #[v0, v1, v2, v3, v4, v5, v6, u7, u8, u9] t := h5.set 6 v6
  have h7 : Blk ((((((((W.setCell ⟨b, 0, none⟩ v0).setCell ⟨b, 1, none⟩ v1).setCell ⟨b, 2, none⟩ v2).setCell ⟨b, 3, none⟩ v3).setCell ⟨b, 4, none⟩ v4).setCell ⟨b, 5, none⟩ v5).setCell ⟨b, 6, none⟩ v6).setCell ⟨b, 7, none⟩ v7) b #[v0, v1, v2, v3, v4, v5, v6, v7, u8, u9] t := h6.set 7 v7
  have h8 : Blk (((((((((W.setCell ⟨b, 0, none⟩ v0).setCell ⟨b, 1, none⟩ v1).setCell ⟨b, 2, none⟩ v2).setCell ⟨b, 3, none⟩ v3).setCell ⟨b, 4, none⟩ v4).setCell ⟨b, 5, none⟩ v5).setCell ⟨b, 6, none⟩ v6).setCell ⟨b, 7, none⟩ v7).setCell ⟨b, 8, none⟩ v8) b #[v0, v1, v2, v3, v4, v5, v6, v7, v8, u9] t := h7.set 8 v8
  have h9 : Blk ((((((((((W.setCell ⟨b, 0, none⟩ v0).setCell ⟨b, 1, none⟩ v1).setCell ⟨b, 2, none⟩ v2).setCell ⟨b, 3, none⟩ v3).setCell ⟨b, 4, none⟩ v4).setCell ⟨b, 5, none⟩ v5).setCell ⟨b, 6, none⟩ v6).setCell ⟨b, 7, none⟩ v7).setCell ⟨b, 8, none⟩ v8).setCell ⟨b, 9, none⟩ v9) b #[v0, v1, v2, v3, v4, v5, v6, v7, v8, v9] t := h8.set 9 v9
  exact h9
set_option maxRecDepth 100000 in
set_option maxHeartbeats 4000000 in
theorem freshWrite_any (x : Wr) (w : World) (h1 : x.ky.size ≤ 1000) (h2 : x.sa.size ≤ 1000) (h3 : x.sb.size ≤ 1000) :
    Calls Tryz.prog 39 #[.agg x.cells] w fun e w' => e = .returned (.agg x.cells) ∧ Below w.heap.size w w' := freshWr_any x w (by omega) (by omega) (by omega)
theorem set10X {W : World} {g p : Nat} {cs : Array Value} {t : TypeId} (h : Blk W g cs t) (v0 v1 v2 v3 v4 v5 v6 v7 v8 v9 : Value) :
    ∃ cs', Blk ((((((((((W.setCell ⟨g, p, none⟩ v0).setCell ⟨g, p + 1, none⟩ v1).setCell ⟨g, p + 2, none⟩ v2).setCell ⟨g, p + 3, none⟩ v3).setCell ⟨g, p + 4, none⟩ v4).setCell ⟨g, p + 5, none⟩ v5).setCell ⟨g, p + 6, none⟩ v6).setCell ⟨g, p + 7, none⟩ v7).setCell ⟨g, p + 8, none⟩ v8).setCell ⟨g, p + 9, none⟩ v9) g cs' t ∧ cs'.size = cs.size ∧ (∀ q, q < p ∨ p + 10 ≤ q → cs'[q]? = cs[q]?) ∧ (p + 10 ≤ cs.size → ∀ j v, (#[v0, v1, v2, v3, v4, v5, v6, v7, v8, v9] : Array Value)[j]? = some v → cs'[p + j]? = some v) := by
  refine ⟨((((((((((cs.setIfInBounds p v0).setIfInBounds (p + 1) v1).setIfInBounds (p + 2) v2).setIfInBounds (p + 3) v3).setIfInBounds (p + 4) v4).setIfInBounds (p + 5) v5).setIfInBounds (p + 6) v6).setIfInBounds (p + 7) v7).setIfInBounds (p + 8) v8).setIfInBounds (p + 9) v9), ((((((((((h.set p v0).set (p + 1) v1).set (p + 2) v2).set (p + 3) v3).set (p + 4) v4).set (p + 5) v5).set (p + 6) v6).set (p + 7) v7).set (p + 8) v8).set (p + 9) v9), by simp, fun q hq => ?_, fun hs j v hv => ?_⟩
  · simp only [Array.getElem?_setIfInBounds]
    repeat (rw [if_neg (by omega)])
  · have hj : j < 10 := by
      have := (Array.getElem?_eq_some_iff.1 hv).1
      simpa using this
    have hc : j = 0 ∨ j = 1 ∨ j = 2 ∨ j = 3 ∨ j = 4 ∨ j = 5 ∨ j = 6 ∨ j = 7 ∨ j = 8 ∨ j = 9 := by omega
    simp only [Array.getElem?_setIfInBounds, Array.size_setIfInBounds]
    rcases hc with rfl | rfl | rfl | rfl | rfl | rfl | rfl | rfl | rfl | rfl
    all_goals
      have e : _ = v := Option.some.inj hv
      subst e
      repeat (first | rw [if_pos (by omega)] | rw [if_neg (by omega)])
      try simp
      try omega
theorem below10X {B g : Nat} {w W : World} (h : Below B w W) (hb : B ≤ g) (p : Nat) (v0 v1 v2 v3 v4 v5 v6 v7 v8 v9 : Value) : Below B w ((((((((((W.setCell ⟨g, p, none⟩ v0).setCell ⟨g, p + 1, none⟩ v1).setCell ⟨g, p + 2, none⟩ v2).setCell ⟨g, p + 3, none⟩ v3).setCell ⟨g, p + 4, none⟩ v4).setCell ⟨g, p + 5, none⟩ v5).setCell ⟨g, p + 6, none⟩ v6).setCell ⟨g, p + 7, none⟩ v7).setCell ⟨g, p + 8, none⟩ v8).setCell ⟨g, p + 9, none⟩ v9) := ((((((((((h.setCell (p := ⟨g, p, none⟩) hb v0).setCell (p := ⟨g, p + 1, none⟩) hb v1).setCell (p := ⟨g, p + 2, none⟩) hb v2).setCell (p := ⟨g, p + 3, none⟩) hb v3).setCell (p := ⟨g, p + 4, none⟩) hb v4).setCell (p := ⟨g, p + 5, none⟩) hb v5).setCell (p := ⟨g, p + 6, none⟩) hb v6).setCell (p := ⟨g, p + 7, none⟩) hb v7).setCell (p := ⟨g, p + 8, none⟩) hb v8).setCell (p := ⟨g, p + 9, none⟩) hb v9)
/-- The writes that stand in a row of so many, from the k-th on. -/
def WrP (W : World) (g n k : Nat) (l : List Ln) : Prop := ∃ cs, Blk W g cs 47 ∧ cs.size = n * 10 ∧ ∀ i x, k ≤ i → l[i]? = some x → ∀ j v, x.w.cells[j]? = some v → cs[i * 10 + j]? = some v
theorem run_makeW (W : World) (n : Nat) (hn : n ≤ 1000000) :
    (Instr.makeSlice 37 (.int .i64 (n : Int)) (.int .i64 (n : Int))).run Tryz.prog W = .ok (.slice (some ⟨W.heap.size, 0, none⟩) n n) (W.alloc (.cells (madeCells (wrI 0 0 0 ⟨#[]⟩ 0 0 ⟨#[]⟩ 0 0 ⟨#[]⟩) (n * 10)) 47)) := by
  obtain ⟨i0, hi0, hz0, hz1, hz2⟩ := info_parts wr_info
  have h := run_make W 37 47 i0 (.agg (wrI 0 0 0 ⟨#[]⟩ 0 0 ⟨#[]⟩ 0 0 ⟨#[]⟩)) Tryz.underlying37 hi0 hz0 .i64 .i64 (n : Int) (n : Int) (by omega) (Int.le_refl _) (by rw [hz2]; omega) (by omega)
  rw [Int.toNat_natCast, hz1] at h
  exact h

theorem cs_at {W : World} {g p : Nat} {cs : Array Value} {t : TypeId} (h : Blk W g cs t) (hp : p < cs.size) : ∃ u, W.cell? ⟨g, p, none⟩ = some u := ⟨cs[p], by rw [h.cell p]; exact Array.getElem?_eq_getElem hp⟩
theorem wr_next {l : List Ln} {k : Nat} {x : Ln} {cs cs' : Array Value} (hA : ∀ i y, i < k → l[i]? = some y → ∀ j v, y.w.cells[j]? = some v → cs[i * 10 + j]? = some v) (hx : l[k]? = some x) (h1 : ∀ q, q < k * 10 ∨ k * 10 + 10 ≤ q → cs'[q]? = cs[q]?) (h2 : ∀ j v, x.w.cells[j]? = some v → cs'[k * 10 + j]? = some v) :
    ∀ i y, i < k + 1 → l[i]? = some y → ∀ j v, y.w.cells[j]? = some v → cs'[i * 10 + j]? = some v := by
  intro i y hi hy j v hv
  have hj : j < 10 := by
    have := (Array.getElem?_eq_some_iff.1 hv).1
    simpa using this
  by_cases e : i = k
  · subst e
    rw [hx] at hy
    injection hy with hy
    subst hy
    exact h2 j v hv
  · rw [h1 _ (.inl (by omega))]
    exact hA i y (by omega) hy j v hv
set_option maxRecDepth 100000 in
set_option maxHeartbeats 4000000 in
theorem writes_any (A : Option Addr) (n c : Nat) (l : List Ln) (w : World) (hn : l.length = n) (hr : RdX 11 w.heap.size w A (l.map Ln.cells)) (hm : n ≤ 1000) (hg : ∀ x, x ∈ l → x.good = true) :
    Calls Tryz.prog 15 #[.slice A n c] w fun e w' => (∃ g, e = .returned (.slice (some ⟨g, 0, none⟩) n n) ∧ w.heap.size ≤ g ∧ WrP w' g n 0 l) ∧ Below w.heap.size w w' := by
  have hmk : ∀ W : World, (Instr.makeSlice 37 (.int .i64 (n : Int)) (.int .i64 (n : Int))).run Tryz.prog W = .ok (.slice (some ⟨W.heap.size, 0, none⟩) n n) (W.alloc (.cells (madeCells (wrI 0 0 0 ⟨#[]⟩ 0 0 ⟨#[]⟩ 0 0 ⟨#[]⟩) (n * 10)) 47)) := fun W => run_makeW W n (by omega)
  have HN := Lib.hid hn
  have HR := Lib.hid (fun W (h : Below w.heap.size w W) => hr.keep (W' := W) h (Nat.le_refl _))
  have hK0 := blk_new w (madeCells (wrI 0 0 0 ⟨#[]⟩ 0 0 ⟨#[]⟩ 0 0 ⟨#[]⟩) (n * 10)) 47
  have hba := b0 w (.cells (madeCells (wrI 0 0 0 ⟨#[]⟩ 0 0 ⟨#[]⟩ 0 0 ⟨#[]⟩) (n * 10)) 47)
  have hcs : (madeCells (wrI 0 0 0 ⟨#[]⟩ 0 0 ⟨#[]⟩ 0 0 ⟨#[]⟩) (n * 10)).size = n * 10 := by simp [madeCells]
  clear hn hr
  go_enter Tryz.func15, Tryz.ntmps15
  go_upto_region 2 with fail
  generalize w.alloc (.cells (madeCells (wrI 0 0 0 ⟨#[]⟩ 0 0 ⟨#[]⟩ 0 0 ⟨#[]⟩) (n * 10)) 47) = W at hK0 hba ⊢
  generalize madeCells (wrI 0 0 0 ⟨#[]⟩ 0 0 ⟨#[]⟩ 0 0 ⟨#[]⟩) (n * 10) = cs0 at hK0 hcs
  clear hmk
  generalize hgg : w.heap.size = g at hK0 hba HR ⊢
  go_wp2_with fail
  go_loopw [4, 11] (fun _ i wr => ∃ (k : Nat) (cs : Array Value), k ≤ n ∧ i = .int .i64 k ∧ Blk wr g cs 47 ∧ cs.size = n * 10 ∧ Hid (∀ i x, i < k → l[i]? = some x → ∀ j v, x.w.cells[j]? = some v → cs[i * 10 + j]? = some v) ∧ Below g w wr) (fun _ i _ => n - (intOf i).toNat)
  case atStart => exact ⟨0, cs0, Nat.zero_le _, rfl, hK0, hcs, fun i x hi => by omega, hba⟩
  case round =>
    clear hK0 hcs hba
    obtain ⟨k, cs, hk, rfl, hK, hcs, hA, hW⟩ := hrel
    by_cases hlt : k < n
    · obtain ⟨x, hx⟩ : ∃ x, l[k]? = some x := ⟨_, List.getElem?_eq_getElem (show k < l.length by have := HN.out; omega)⟩
      obtain ⟨ad, rfl, _, hc⟩ := HR.out wr hW k _ (map_get hx)
      have i1 : (0 : Int) ≤ (k : Int) := by omega
      have i2 : (k : Int) < (n : Int) := by omega
      have HX := Lib.hid hx
      obtain ⟨_, hgd⟩ := ln_in (hg x (List.mem_of_getElem? hx))
      obtain ⟨_, _, _, g1, g2, g3⟩ := good_in hgd
      have HF := Lib.hid (fun W => freshWrite_any x.w W (by omega) (by omega) (by omega))
      clear hx hgd g1 g2 g3
      have q0 : wr.cell? (ad.add (k * 11)) = some (.int .i64 x.pl) := (celX hc).1 _ rfl
      have q1 : wr.cell? ⟨(ad.add (k * 11)).block, (ad.add (k * 11)).off + 1, none⟩ = some (.int .i64 x.w.dev) := (celX hc).2 0 _ rfl
      have q2 : wr.cell? ⟨(ad.add (k * 11)).block, (ad.add (k * 11)).off + 2, none⟩ = some (.int .i64 x.w.seq) := (celX hc).2 1 _ rfl
      have q3 : wr.cell? ⟨(ad.add (k * 11)).block, (ad.add (k * 11)).off + 3, none⟩ = some (.int .i64 x.w.K) := (celX hc).2 2 _ rfl
      have q4 : wr.cell? ⟨(ad.add (k * 11)).block, (ad.add (k * 11)).off + 4, none⟩ = some (.string x.w.ky) := (celX hc).2 3 _ rfl
      have q5 : wr.cell? ⟨(ad.add (k * 11)).block, (ad.add (k * 11)).off + 5, none⟩ = some (.int .i64 x.w.ka) := (celX hc).2 4 _ rfl
      have q6 : wr.cell? ⟨(ad.add (k * 11)).block, (ad.add (k * 11)).off + 6, none⟩ = some (.int .i64 x.w.na) := (celX hc).2 5 _ rfl
      have q7 : wr.cell? ⟨(ad.add (k * 11)).block, (ad.add (k * 11)).off + 7, none⟩ = some (.string x.w.sa) := (celX hc).2 6 _ rfl
      have q8 : wr.cell? ⟨(ad.add (k * 11)).block, (ad.add (k * 11)).off + 8, none⟩ = some (.int .i64 x.w.kb) := (celX hc).2 7 _ rfl
      have q9 : wr.cell? ⟨(ad.add (k * 11)).block, (ad.add (k * 11)).off + 9, none⟩ = some (.int .i64 x.w.nb) := (celX hc).2 8 _ rfl
      have q10 : wr.cell? ⟨(ad.add (k * 11)).block, (ad.add (k * 11)).off + 10, none⟩ = some (.string x.w.sb) := (celX hc).2 9 _ rfl
      clear hc
      go_upto_region 5 with fail
      have hX := blk_new wr x.cells 49
      have hK1 := hK.alloc (.cells x.cells 49)
      have hW1 := hW.alloc (Nat.le_of_lt hK.lt) (.cells x.cells 49)
      clear q0 q1 q2 q3 q4 q5 q6 q7 q8 q9 q10 hK hW
      generalize wr.alloc (.cells x.cells 49) = W1 at hX hK1 hW1 ⊢
      generalize wr.heap.size = bx at hX ⊢
      have c0 := hX.cell 0
      have c1 := hX.cell 1
      have c2 := hX.cell 2
      have c3 := hX.cell 3
      have c4 := hX.cell 4
      have c5 := hX.cell 5
      have c6 := hX.cell 6
      have c7 := hX.cell 7
      have c8 := hX.cell 8
      have c9 := hX.cell 9
      have c10 := hX.cell 10
      have hgz := hK1.lt
      have hpos : k * 10 + 10 ≤ cs.size := by rw [hcs]; omega
      go_wp2_with (go_at_call 39; refine (HF.out W1).mono ?_; rintro e w2 ⟨rfl, hb2⟩; have hK2 := hK1.keep hb2; have r0 : w2.frozen? ⟨g, k * 10, none⟩ = false := hK2.free _; have s0 : ∃ u, w2.cell? ⟨g, k * 10, none⟩ = some u := cs_at hK2 (by omega); obtain ⟨u0, s0⟩ := s0; have r1 : w2.frozen? ⟨g, k * 10 + 1, none⟩ = false := hK2.free _; have s1 : ∃ u, w2.cell? ⟨g, k * 10 + 1, none⟩ = some u := cs_at hK2 (by omega); obtain ⟨u1, s1⟩ := s1; have r2 : w2.frozen? ⟨g, k * 10 + 2, none⟩ = false := hK2.free _; have s2 : ∃ u, w2.cell? ⟨g, k * 10 + 2, none⟩ = some u := cs_at hK2 (by omega); obtain ⟨u2, s2⟩ := s2; have r3 : w2.frozen? ⟨g, k * 10 + 3, none⟩ = false := hK2.free _; have s3 : ∃ u, w2.cell? ⟨g, k * 10 + 3, none⟩ = some u := cs_at hK2 (by omega); obtain ⟨u3, s3⟩ := s3; have r4 : w2.frozen? ⟨g, k * 10 + 4, none⟩ = false := hK2.free _; have s4 : ∃ u, w2.cell? ⟨g, k * 10 + 4, none⟩ = some u := cs_at hK2 (by omega); obtain ⟨u4, s4⟩ := s4; have r5 : w2.frozen? ⟨g, k * 10 + 5, none⟩ = false := hK2.free _; have s5 : ∃ u, w2.cell? ⟨g, k * 10 + 5, none⟩ = some u := cs_at hK2 (by omega); obtain ⟨u5, s5⟩ := s5; have r6 : w2.frozen? ⟨g, k * 10 + 6, none⟩ = false := hK2.free _; have s6 : ∃ u, w2.cell? ⟨g, k * 10 + 6, none⟩ = some u := cs_at hK2 (by omega); obtain ⟨u6, s6⟩ := s6; have r7 : w2.frozen? ⟨g, k * 10 + 7, none⟩ = false := hK2.free _; have s7 : ∃ u, w2.cell? ⟨g, k * 10 + 7, none⟩ = some u := cs_at hK2 (by omega); obtain ⟨u7, s7⟩ := s7; have r8 : w2.frozen? ⟨g, k * 10 + 8, none⟩ = false := hK2.free _; have s8 : ∃ u, w2.cell? ⟨g, k * 10 + 8, none⟩ = some u := cs_at hK2 (by omega); obtain ⟨u8, s8⟩ := s8; have r9 : w2.frozen? ⟨g, k * 10 + 9, none⟩ = false := hK2.free _; have s9 : ∃ u, w2.cell? ⟨g, k * 10 + 9, none⟩ = some u := cs_at hK2 (by omega); obtain ⟨u9, s9⟩ := s9; skip)
      obtain ⟨cs', hK3, hcs3, h31, h32⟩ := set10X (p := k * 10) hK2 (.int .i64 x.w.dev) (.int .i64 x.w.seq) (.int .i64 x.w.K) (.string x.w.ky) (.int .i64 x.w.ka) (.int .i64 x.w.na) (.string x.w.sa) (.int .i64 x.w.kb) (.int .i64 x.w.nb) (.string x.w.sb)
      have hW3 := below10X (hW1.trans (hb2.mono (Nat.le_of_lt hgz))) (Nat.le_refl _) (k * 10) (.int .i64 x.w.dev) (.int .i64 x.w.seq) (.int .i64 x.w.K) (.string x.w.ky) (.int .i64 x.w.ka) (.int .i64 x.w.na) (.string x.w.sa) (.int .i64 x.w.kb) (.int .i64 x.w.nb) (.string x.w.sb)
      have HA2 := Lib.hid (wr_next hA.out HX.out h31 (h32 hpos))
      clear hA h31 h32
      go_roundw
      case rel => exact ⟨k + 1, cs', by omega, by go_num, hK3, by rw [hcs3]; exact hcs, HA2, hW3⟩
      case measure => simp [intOf]; omega
    · have hq : ¬ (k : Int) < (n : Int) := by omega
      have R : WrP wr g n 0 l := ⟨cs, hK, hcs, fun i x _ hx j v hv => hA.out i x (by have := (List.getElem?_eq_some_iff.1 hx).1; have := HN.out; omega) hx j v hv⟩
      have HRR := Lib.hid R
      clear hA R
      go_wp2_with fail
      go_ret
      exact ⟨⟨g, rfl, (by first | exact Nat.le_of_eq hgg | exact Nat.le_refl _), HRR.out⟩, by first | exact hW | (rw [hgg]; exact hW)⟩
end Go.Proofs.YtpjleeeligahaaaGreatDoor
