/-
  WHAT IS PROVED: the law PackWrites answers true where not all writes are good, or there are too many, if package pack's calls answer as PackC2 says; how long good writes' bytes are at most. Conditions: those typed in the theorem.
-/
import Derived.Test.YtahmjiomkaibgaaDoorLawPackGoes
import Derived.Test.YtahmjiomkaibgaaDoorPutTake
import Derived.Deep.Cut
namespace Go.Proofs.YtahmjiomkaibgaaDoor
open Go.RowKit
attribute [local go_sem ↓] Go.wp_at_zero Go.wp_at_succ

theorem goodAll_all {l : List Wr} (h : goodAll l = true) {x : Wr} (hx : x ∈ l) : x.good = true := by
  unfold goodAll at h
  rw [List.all_eq_true] at h
  exact h x hx

theorem wB_200 {x : Wr} (h : x.good = true) (hf : x.fits) : (wB x).length ≤ 200 := by
  obtain ⟨h1, h2, h3, h4, h5, h6⟩ := good_in h
  obtain ⟨_, _, _, f1, f2⟩ := hf
  have val : ∀ (k n : Int) (s : ByteArray), (k = 0 ∨ k = 1 ∨ k = 2) → -9223372036854775808 ≤ n → n ≤ 9223372036854775807 → s.size ≤ 40 → (valB k n s.data.toList).length ≤ 58 := by
    intro k n s hk g0 g1 hs
    have hl : s.data.toList.length = s.size := Array.length_toList
    rcases hk with rfl | rfl | rfl
    · rw [valB_0]
      have := numB_small (n := 0) (by omega)
      omega
    · rw [valB_1, List.length_append]
      have := numB_small (n := 1) (by omega)
      have := numB_small (zig_lt g0 g1)
      omega
    · rw [valB_2, List.length_append]
      have := numB_small (n := 2) (by omega)
      unfold textB
      rw [List.length_append]
      have := numB_small (n := s.data.toList.length) (by omega)
      omega
  have hl : x.ky.data.toList.length = x.ky.size := Array.length_toList
  unfold wB wrB
  simp only [List.length_append]
  have a1 := numB_small (n := x.dev.toNat) (by omega)
  have a2 := numB_small (n := x.seq.toNat) (by omega)
  have a3 := numB_small (n := x.K.toNat) (by omega)
  have a4 := numB_small (n := x.ky.data.toList.length) (by omega)
  have a5 := val x.ka x.na x.sa h5.1 f1.1 f1.2 h5.2
  have a6 := val x.kb x.nb x.sb h6.1 f2.1 f2.2 h6.2
  unfold textB
  rw [List.length_append]
  omega
theorem wsB_small {l : List Wr} (hg : ∀ x, x ∈ l → x.fits ∧ x.good = true) (hn : l.length ≤ 1000) : (wsB l).length ≤ 9 + 200 * l.length := by
  have key : ∀ l : List Wr, (∀ x, x ∈ l → x.fits ∧ x.good = true) → (l.flatMap wB).length ≤ 200 * l.length := by
    intro l
    induction l with
    | nil => intro _; simp
    | cons x t ih =>
      intro h
      have h1 := ih fun y hy => h y (List.mem_cons_of_mem _ hy)
      have h2 := wB_200 (h x List.mem_cons_self).2 (h x List.mem_cons_self).1
      rw [List.flatMap_cons, List.length_append, List.length_cons]
      omega
  unfold wsB
  rw [List.length_append]
  have := key l hg
  have := numB_small (n := l.length) (by omega)
  omega

set_option maxRecDepth 100000 in
set_option maxHeartbeats 4000000 in
theorem lawPackWrites_bad {S : Addr} {Rdr : World → Nat → Rest → Prop} (hC : PackC2 S Rdr) (A A2 : Option Addr) (n c m d : Nat) (l : List Wr) (w : World) (hL : LaidP S w) (hn : l.length = n) (hr : RdW w.heap.size w A l) (hm : n ≤ maxLen) (hf : ∀ x, x ∈ l → x.fits)
    (hg : goodAll l = false) :
    Calls Tryd.prog 4 #[.slice A n c, .slice A2 m d] w fun e w' => e = .returned (.bool true) ∧ Below w.heap.size w w' := by
  have HN := Lib.hid hn
  clear hn
  have HGA := Lib.hid (fun W (h : RdW w.heap.size W A l) (hB : w.heap.size ≤ W.heap.size) => refGoodAll_any A n c l W HN.out h hB hm hf)
  rw [hg] at HGA
  go_enter Tryd.func4, Tryd.ntmps4
  go_wp2_with fail
  refine (packAwake hC.toPackC w hL).mono ?_
  rintro e w1 ⟨rfl, B1⟩
  go_wp2_with fail
  refine (HGA.out w1 (hr.keep B1 (Nat.le_refl _)) B1.size).mono ?_
  rintro e w2 ⟨rfl, hb2⟩
  have B2 := bt B1 hb2
  go_wp2_with fail
  refine (packAwake hC.toPackC w2 (hL.keep B2)).mono ?_
  rintro e w3 ⟨rfl, hb3⟩
  go_wp2_with fail
  go_ret
  exact ⟨rfl, bt B2 hb3⟩

set_option maxRecDepth 100000 in
set_option maxHeartbeats 4000000 in
theorem lawPackWrites_many {S : Addr} {Rdr : World → Nat → Rest → Prop} (hC : PackC2 S Rdr) (A A2 : Option Addr) (n c m d : Nat) (l : List Wr) (w : World) (hL : LaidP S w) (hn : l.length = n) (hr : RdW w.heap.size w A l) (hm : n ≤ maxLen) (hf : ∀ x, x ∈ l → x.fits)
    (hg : goodAll l = true) (hs : 100 < n) :
    Calls Tryd.prog 4 #[.slice A n c, .slice A2 m d] w fun e w' => e = .returned (.bool true) ∧ Below w.heap.size w w' := by
  have HN := Lib.hid hn
  clear hn
  have HGA := Lib.hid (fun W (h : RdW w.heap.size W A l) (hB : w.heap.size ≤ W.heap.size) => refGoodAll_any A n c l W HN.out h hB hm hf)
  rw [hg] at HGA
  have g1 : (100 : Int) < (n : Int) := by omega
  go_enter Tryd.func4, Tryd.ntmps4
  go_wp2_with fail
  refine (packAwake hC.toPackC w hL).mono ?_
  rintro e w1 ⟨rfl, B1⟩
  go_wp2_with fail
  refine (HGA.out w1 (hr.keep B1 (Nat.le_refl _)) B1.size).mono ?_
  rintro e w2 ⟨rfl, hb2⟩
  have B2 := bt B1 hb2
  go_wp2_with fail
  refine (packAwake hC.toPackC w2 (hL.keep B2)).mono ?_
  rintro e w3 ⟨rfl, hb3⟩
  go_wp2_with fail
  go_ret
  exact ⟨rfl, bt B2 hb3⟩

set_option maxRecDepth 100000 in
set_option maxHeartbeats 4000000 in
theorem lawPackWrites_long {S : Addr} {Rdr : World → Nat → Rest → Prop} (hC : PackC2 S Rdr) (A A2 : Option Addr) (n c m d : Nat) (l : List Wr) (w : World) (hL : LaidP S w) (hn : l.length = n) (hr : RdW w.heap.size w A l) (hm : n ≤ maxLen) (hf : ∀ x, x ∈ l → x.fits)
    (hg : goodAll l = true) (hs : n ≤ 100) (hs2 : 2000 < m) :
    Calls Tryd.prog 4 #[.slice A n c, .slice A2 m d] w fun e w' => e = .returned (.bool true) ∧ Below w.heap.size w w' := by
  have HN := Lib.hid hn
  clear hn
  have HGA := Lib.hid (fun W (h : RdW w.heap.size W A l) (hB : w.heap.size ≤ W.heap.size) => refGoodAll_any A n c l W HN.out h hB hm hf)
  rw [hg] at HGA
  have g1 : (n : Int) ≤ 100 := by omega
  have g2 : (2000 : Int) < (m : Int) := by omega
  go_enter Tryd.func4, Tryd.ntmps4
  go_wp2_with fail
  refine (packAwake hC.toPackC w hL).mono ?_
  rintro e w1 ⟨rfl, B1⟩
  go_wp2_with fail
  refine (HGA.out w1 (hr.keep B1 (Nat.le_refl _)) B1.size).mono ?_
  rintro e w2 ⟨rfl, hb2⟩
  have B2 := bt B1 hb2
  go_wp2_with fail
  refine (packAwake hC.toPackC w2 (hL.keep B2)).mono ?_
  rintro e w3 ⟨rfl, hb3⟩
  go_wp2_with fail
  go_ret
  exact ⟨rfl, bt B2 hb3⟩
end Go.Proofs.YtahmjiomkaibgaaDoor
