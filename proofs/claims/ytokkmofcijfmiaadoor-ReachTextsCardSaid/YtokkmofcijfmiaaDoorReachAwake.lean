/-
  WHAT IS PROVED: the chapter's examples hold (awake answers true), if package reach's calls answer as ReachC says.
-/
import Derived.Test.YtokkmofcijfmiaaDoorGQ5
namespace Go.Proofs.YtokkmofcijfmiaaDoor
open Go.RowKit

/-! The chapter's examples. -/
theorem ex_of : IsMade (· ∈ dL [⟨#[98]⟩, ⟨#[97, 46, 120]⟩, ⟨#[97]⟩]) [[97], [98]] := by
  refine ⟨by unfold Rises; decide, fun x => ?_⟩
  simp only [dL, List.map_cons, List.map_nil, List.mem_cons, List.not_mem_nil, or_false]
  constructor
  · rintro (rfl | rfl)
    · refine ⟨Or.inr (Or.inr rfl), ?_⟩
      rintro y (rfl | rfl | rfl) <;> decide
    · refine ⟨Or.inl rfl, ?_⟩
      rintro y (rfl | rfl | rfl) <;> decide
  · rintro ⟨rfl | rfl | rfl, h⟩
    · exact Or.inr rfl
    · exact absurd (h [97] (Or.inr (Or.inr rfl)) (by decide)) (by decide)
    · exact Or.inl rfl
theorem ex_both : IsMade (BothS (dL [⟨#[97]⟩]) (dL [⟨#[97, 46, 120]⟩, ⟨#[99]⟩])) [[97, 46, 120]] := by
  have e : ∀ x, BothS (dL [⟨#[97]⟩]) (dL [⟨#[97, 46, 120]⟩, ⟨#[99]⟩]) x ↔ x = [97, 46, 120] := by
    intro x
    unfold BothS
    simp only [dL, List.map_cons, List.map_nil, List.mem_cons, List.not_mem_nil, or_false]
    constructor
    · rintro (⟨rfl | rfl, h⟩ | ⟨rfl, h⟩)
      · rfl
      · revert h; decide
      · revert h; decide
    · rintro rfl
      exact Or.inl ⟨Or.inl rfl, by decide⟩
  refine ⟨by unfold Rises; decide, fun x => ?_⟩
  rw [List.mem_singleton]
  constructor
  · rintro rfl
    exact ⟨(e _).2 rfl, fun y hy _ => (e y).1 hy⟩
  · rintro ⟨h, _⟩
    exact (e x).1 h

theorem of_ok (h : OfC) (A : Option Addr) (n c : Nat) (l : List ByteArray) (w : World) (R : List (List UInt8)) (hL : LaidR w) (hn : l.length = n) (hr : RdS w.heap.size w A l) (hm : n ≤ 1000) (hs : Sz 1000 l) (hR : IsMade (· ∈ dL l) R) (hp : (dL l).all preB = true) (h6 : R.length ≤ 6) :
    Calls Tryd.prog 24 #[.slice A n c] w fun e w' => Ans R 0 e w' ∧ Below w.heap.size w w' :=
  (h A n c l w R hL hn hr hm hs hR).mono fun _ _ hh => by
    rw [if_pos hp, if_pos h6] at hh
    exact hh
theorem of_full (h : OfC) (A : Option Addr) (n c : Nat) (l : List ByteArray) (w : World) (R : List (List UInt8)) (hL : LaidR w) (hn : l.length = n) (hr : RdS w.heap.size w A l) (hm : n ≤ 1000) (hs : Sz 1000 l) (hR : IsMade (· ∈ dL l) R) (hp : (dL l).all preB = true) (h6 : ¬ R.length ≤ 6) :
    Calls Tryd.prog 24 #[.slice A n c] w fun e w' => e = .returned (.tuple #[.slice none 0 0, .int .i64 3]) ∧ Below w.heap.size w w' :=
  (h A n c l w R hL hn hr hm hs hR).mono fun _ _ hh => by
    rw [if_pos hp, if_neg h6] at hh
    exact hh
theorem of_bad (h : OfC) (A : Option Addr) (n c : Nat) (l : List ByteArray) (w : World) (hL : LaidR w) (hn : l.length = n) (hr : RdS w.heap.size w A l) (hm : n ≤ 1000) (hs : Sz 1000 l) (hp : (dL l).all preB = false) :
    Calls Tryd.prog 24 #[.slice A n c] w fun e w' => e = .returned (.tuple #[.slice none 0 0, .int .i64 2]) ∧ Below w.heap.size w w' := by
  obtain ⟨R, hR⟩ := made_ex (dL l)
  exact (h A n c l w R hL hn hr hm hs hR).mono fun _ _ hh => by
    rw [if_neg (by rw [hp]; exact Bool.false_ne_true)] at hh
    exact hh
theorem refSame_is {B C : Nat} (A A2 : Option Addr) (n c m d : Nat) (l l2 : List ByteArray) (w : World) (b : Bool) (hb : sameB l l2 = b) (hn : l.length = n) (hr : RdS B w A l) (hm : n ≤ maxLen) (hn2 : l2.length = m) (hr2 : RdS C w A2 l2) :
    Calls Tryd.prog 13 #[.slice A n c, .slice A2 m d] w fun e w' => e = .returned (.bool b) ∧ Drn w w' := by
  subst hb
  exact refSame_any A A2 n c m d l l2 w hn hr hm hn2 hr2
theorem rdLit (w : World) (cs : Array Value) (l : List ByteArray) (hcs : cs.toList = strV l) (hl : l.length ≤ 1000) : RdS (w.alloc (.cells cs 9)).heap.size (w.alloc (.cells cs 9)) (some ⟨w.heap.size, 0, none⟩) l :=
  (OwnS.lit w (base := 0) cs l hcs rfl (Nat.zero_le _) (by unfold maxLen; omega)).rd
theorem rdLitA (w : World) (cs : Array Value) (l : List ByteArray) (o : Obj) (hcs : cs.toList = strV l) (hl : l.length ≤ 1000) : RdS ((w.alloc (.cells cs 9)).alloc o).heap.size ((w.alloc (.cells cs 9)).alloc o) (some ⟨w.heap.size, 0, none⟩) l :=
  ((rdLit w cs l hcs hl).keep (b0 _ o) (Nat.le_refl _)).more (by simp)
theorem rdLitB (w : World) (cs : Array Value) (l : List ByteArray) (o : Obj) (hcs : cs.toList = strV l) (hl : l.length ≤ 1000) : RdS ((w.alloc o).alloc (.cells cs 9)).heap.size ((w.alloc o).alloc (.cells cs 9)) (some ⟨w.heap.size + 1, 0, none⟩) l := by
  have h := rdLit (w.alloc o) cs l hcs hl
  have e : (w.alloc o).heap.size = w.heap.size + 1 := by simp
  rw [e] at h
  exact h
theorem covers_is (h : CoversC) (A A2 : Option Addr) (n c m d : Nat) (a b : List ByteArray) (w : World) (v : Bool) (hv : covB (dL a) (dL b) = v) (hL : LaidR w) (ha : a.length = n) (hr : RdS w.heap.size w A a) (hb : b.length = m) (hr2 : RdS w.heap.size w A2 b) (g1 : goodR (dL a) = true) (g2 : goodR (dL b) = true) :
    Calls Tryd.prog 25 #[.slice A n c, .slice A2 m d] w fun e w' => e = .returned (.bool v) ∧ Below w.heap.size w w' := by
  subst hv
  exact h A A2 n c m d a b w hL ha hr hb hr2 g1 g2
theorem dL_length {r : List ByteArray} {R : List (List UInt8)} (h : dL r = R) : r.length = R.length := by rw [← h, dL_len]
theorem sameB_of {r s : List ByteArray} {R S : List (List UInt8)} (h : dL r = R) (k : dL s = S) : sameB r s = decide (R = S) := by
  unfold sameB
  rw [h, k]
theorem small_max {n : Nat} (h : n ≤ 1000) : n ≤ maxLen := by unfold maxLen; omega

def ex1 : List ByteArray := [⟨#[98]⟩, ⟨#[97, 46, 120]⟩, ⟨#[97]⟩]
theorem ex1_len : ex1.length = 3 := rfl
theorem ex1_rd (w : World) : RdS (w.alloc (.cells #[.string ⟨#[98]⟩, .string ⟨#[97, 46, 120]⟩, .string ⟨#[97]⟩] 9)).heap.size (w.alloc (.cells #[.string ⟨#[98]⟩, .string ⟨#[97, 46, 120]⟩, .string ⟨#[97]⟩] 9)) (some ⟨w.heap.size, 0, none⟩) ex1 := rdLit w _ _ rfl (by decide)
def ex2 : List ByteArray := [⟨#[97]⟩, ⟨#[98]⟩]
theorem ex2_len : ex2.length = 2 := rfl
theorem ex2_rd (w : World) : RdS (w.alloc (.cells #[.string ⟨#[97]⟩, .string ⟨#[98]⟩] 9)).heap.size (w.alloc (.cells #[.string ⟨#[97]⟩, .string ⟨#[98]⟩] 9)) (some ⟨w.heap.size, 0, none⟩) ex2 := rdLit w _ _ rfl (by decide)
def ex3 : List ByteArray := [⟨#[97, 46, 120]⟩]
theorem ex3_len : ex3.length = 1 := rfl
theorem ex3_rd (w : World) : RdS (w.alloc (.cells #[.string ⟨#[97, 46, 120]⟩] 9)).heap.size (w.alloc (.cells #[.string ⟨#[97, 46, 120]⟩] 9)) (some ⟨w.heap.size, 0, none⟩) ex3 := rdLit w _ _ rfl (by decide)
def ex4 : List ByteArray := [⟨#[97]⟩]
theorem ex4_len : ex4.length = 1 := rfl
theorem ex4_rd (w : World) : RdS (w.alloc (.cells #[.string ⟨#[97]⟩] 9)).heap.size (w.alloc (.cells #[.string ⟨#[97]⟩] 9)) (some ⟨w.heap.size, 0, none⟩) ex4 := rdLit w _ _ rfl (by decide)
def ex5 : List ByteArray := [⟨#[97, 46, 120]⟩, ⟨#[99]⟩]
theorem ex5_len : ex5.length = 2 := rfl
theorem ex5_rd (w : World) : RdS (w.alloc (.cells #[.string ⟨#[97, 46, 120]⟩, .string ⟨#[99]⟩] 9)).heap.size (w.alloc (.cells #[.string ⟨#[97, 46, 120]⟩, .string ⟨#[99]⟩] 9)) (some ⟨w.heap.size, 0, none⟩) ex5 := rdLit w _ _ rfl (by decide)
def ex6 : List ByteArray := [⟨#[]⟩]
theorem ex6_len : ex6.length = 1 := rfl
theorem ex6_rd (w : World) : RdS (w.alloc (.cells #[.string ⟨#[]⟩] 9)).heap.size (w.alloc (.cells #[.string ⟨#[]⟩] 9)) (some ⟨w.heap.size, 0, none⟩) ex6 := rdLit w _ _ rfl (by decide)
theorem ex23_a (w : World) : RdS ((w.alloc (.cells #[.string ⟨#[97]⟩, .string ⟨#[98]⟩] 9)).alloc (.cells #[.string ⟨#[97, 46, 120]⟩] 9)).heap.size ((w.alloc (.cells #[.string ⟨#[97]⟩, .string ⟨#[98]⟩] 9)).alloc (.cells #[.string ⟨#[97, 46, 120]⟩] 9)) (some ⟨w.heap.size, 0, none⟩) ex2 := rdLitA w _ _ _ rfl (by decide)
theorem ex23_b (w : World) : RdS ((w.alloc (.cells #[.string ⟨#[97]⟩, .string ⟨#[98]⟩] 9)).alloc (.cells #[.string ⟨#[97, 46, 120]⟩] 9)).heap.size ((w.alloc (.cells #[.string ⟨#[97]⟩, .string ⟨#[98]⟩] 9)).alloc (.cells #[.string ⟨#[97, 46, 120]⟩] 9)) (some ⟨w.heap.size + 1, 0, none⟩) ex3 := rdLitB w _ _ _ rfl (by decide)
theorem ex45_a (w : World) : RdS ((w.alloc (.cells #[.string ⟨#[97]⟩] 9)).alloc (.cells #[.string ⟨#[97, 46, 120]⟩, .string ⟨#[99]⟩] 9)).heap.size ((w.alloc (.cells #[.string ⟨#[97]⟩] 9)).alloc (.cells #[.string ⟨#[97, 46, 120]⟩, .string ⟨#[99]⟩] 9)) (some ⟨w.heap.size, 0, none⟩) ex4 := rdLitA w _ _ _ rfl (by decide)
theorem ex45_b (w : World) : RdS ((w.alloc (.cells #[.string ⟨#[97]⟩] 9)).alloc (.cells #[.string ⟨#[97, 46, 120]⟩, .string ⟨#[99]⟩] 9)).heap.size ((w.alloc (.cells #[.string ⟨#[97]⟩] 9)).alloc (.cells #[.string ⟨#[97, 46, 120]⟩, .string ⟨#[99]⟩] 9)) (some ⟨w.heap.size + 1, 0, none⟩) ex5 := rdLitB w _ _ _ rfl (by decide)
theorem ex1_sz : Sz 1000 ex1 := by unfold Sz ex1; decide
theorem ex1_pre : (dL ex1).all preB = true := by decide
theorem ex1_six : ([[97], [98]] : List (List UInt8)).length ≤ 6 := by decide
theorem ex2_good : goodR (dL ex2) = true := by decide
theorem ex3_good : goodR (dL ex3) = true := by decide
theorem ex4_good : goodR (dL ex4) = true := by decide
theorem ex5_good : goodR (dL ex5) = true := by decide
theorem ex6_good : goodR (dL ex6) = true := by decide
theorem ex23_cov : covB (dL ex2) (dL ex3) = true := by decide
theorem ex1_made : IsMade (· ∈ dL ex1) [[97], [98]] := ex_of
theorem ex45_made : IsMade (BothS (dL ex4) (dL ex5)) [[97, 46, 120]] := ex_both
theorem ex2_same {r : List ByteArray} (h : dL r = [[97], [98]]) : sameB r ex2 = true := by
  rw [sameB_of h (show dL ex2 = [[97], [98]] from rfl)]
  decide
theorem ex3_same {r : List ByteArray} (h : dL r = [[97, 46, 120]]) : sameB r ex3 = true := by
  rw [sameB_of h (show dL ex3 = [[97, 46, 120]] from rfl)]
  decide
theorem ex6_star {s : ByteArray} (h : s.data.toList = textR (dL ex6)) : (s.toList == [42]) = true := by
  rw [ByteArray.toList_eq, h]
  decide
theorem len_of {r : List ByteArray} {R : List (List UInt8)} {n : Nat} (h : dL r = R) (hn : R.length = n) : r.length = n := (dL_length h).trans hn
theorem two_max : 2 ≤ maxLen := small_max (by omega)
theorem one_max : 1 ≤ maxLen := small_max (by omega)
theorem three_k : 3 ≤ 1000 := by omega

set_option maxRecDepth 100000 in
set_option maxHeartbeats 1000000 in
theorem reachAwake (hC : ReachC) (w : World) (hL : LaidR w) :
    Calls Tryd.prog 10 #[] w fun e w' => e = .returned (.bool true) ∧ Below w.heap.size w w' := by
  go_enter Tryd.func10, Tryd.ntmps10
  go_wp2_with fail
  refine (of_ok hC.of _ _ _ ex1 _ [[97], [98]] (hL.keep (b0 _ _)) ex1_len (ex1_rd w) three_k ex1_sz ex1_made ex1_pre ex1_six).mono ?_
  rintro e w2 ⟨⟨A1, c1, r1, rfl, hr1, hd1⟩, hb1⟩
  have HD1 := Lib.hid hd1
  have h2 := bt (b0 _ _) hb1
  clear hd1 hb1
  go_wp2_with fail
  refine (refSame_is A1 _ 2 c1 2 2 r1 ex2 _ true (ex2_same HD1.out) (len_of HD1.out rfl) (hr1.keep (b0 _ _) (Nat.le_refl _)) two_max ex2_len (ex2_rd w2)).mono ?_
  rintro e w3 ⟨rfl, hD3⟩
  have h3 := bt (ba h2 _) (hD3.below _)
  go_wp2_with fail
  refine (covers_is hC.covers _ _ 2 2 1 1 ex2 ex3 _ true ex23_cov (hL.keep (ba (ba h3 _) _)) ex2_len (ex23_a w3) ex3_len (ex23_b w3) ex2_good ex3_good).mono ?_
  rintro e w4 ⟨rfl, hb4⟩
  have h4 := bt (ba (ba h3 _) _) hb4
  clear hb4
  go_wp2_with fail
  refine (hC.both _ _ 1 1 2 2 ex4 ex5 _ [[97, 46, 120]] (hL.keep (ba (ba h4 _) _)) ex4_len (ex45_a w4) ex5_len (ex45_b w4) ex4_good ex5_good ex45_made).mono ?_
  rintro e w5 ⟨⟨A2, c2, r2, rfl, hr2, hd2⟩, hb5⟩
  have HD2 := Lib.hid hd2
  have h5 := bt (ba (ba h4 _) _) hb5
  clear hd2 hb5
  go_wp2_with fail
  refine (refSame_is A2 _ 1 c2 1 1 r2 ex3 _ true (ex3_same HD2.out) (len_of HD2.out rfl) (hr2.keep (b0 _ _) (Nat.le_refl _)) one_max ex3_len (ex3_rd w5)).mono ?_
  rintro e w6 ⟨rfl, hD6⟩
  have h6 := bt (ba h5 _) (hD6.below _)
  go_wp2_with fail
  refine (hC.text _ 1 1 ex6 _ (hL.keep (ba h6 _)) ex6_len (ex6_rd w6) ex6_good).mono ?_
  rintro e w7 ⟨⟨s7, rfl, hs7⟩, hb7⟩
  have h7 := bt (ba h6 _) hb7
  have e7 := ex6_star hs7
  clear hs7
  go_wp2_with fail
  go_ret
  exact ⟨rfl, h7⟩

theorem LaidR.to {W W' : World} (h : LaidR W) (hb : Below W.heap.size W W') : LaidR W' := h.keep hb

theorem good_is (h : GoodC) (A : Option Addr) (n c : Nat) (l : List ByteArray) (w : World) (b : Bool) (hb : goodR (dL l) = b) (hL : LaidR w) (hn : l.length = n) (hr : RdS w.heap.size w A l) (hm : n ≤ 1000) (hs : Sz 1000 l) :
    Calls Tryd.prog 28 #[.slice A n c] w fun e w' => e = .returned (.bool b) ∧ Below w.heap.size w w' := by
  subst hb
  exact h A n c l w hL hn hr hm hs
theorem dL_app (a b : List ByteArray) : dL (a ++ b) = dL a ++ dL b := List.map_append
theorem below_alloc_trans {w w' : World} {o : Obj} (h : Below w.heap.size (w.alloc o) w') : Below w.heap.size w w' := (b0 w o).trans h
theorem up {B : Nat} {w w' : World} {A : Option Addr} {l : List ByteArray} (h : RdS B w A l) (hB : B ≤ w.heap.size) (hb : Below w.heap.size w w') : RdS w'.heap.size w' A l := (h.keep hb hB).more (Nat.le_trans hB hb.size)
end Go.Proofs.YtokkmofcijfmiaaDoor
