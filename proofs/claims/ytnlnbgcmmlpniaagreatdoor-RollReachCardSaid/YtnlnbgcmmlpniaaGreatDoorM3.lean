/-
  WHAT IS PROVED: the document's taking of ints, texts and flags from bytes (spinneyref05), for all bytes. Conditions: those typed in each theorem. · the document's taking of values from bytes (spinneyref05.TakeValue), for all bytes. Conditions: those typed in the theorem. · the document's taking of writes from bytes (spinneyref05.TakeWrite). Conditions: those typed in the theorem. · words for slices of writes that the call owns (own work); append of one write onto such a row. Over any program that bears the types named. · the document's taking of lists of writes from bytes (spinneyref05.TakeWrites). Conditions: those typed in the theorem.
-/
import Derived.Test.YtnlnbgcmmlpniaaGreatDoorM2
import Derived.Test.YtnlnbgcmmlpniaaGreatDoorM1
import Derived.Deep.Cut
import Derived.Test.YtnlnbgcmmlpniaaGreatDoorM0
namespace Go.Proofs.YtnlnbgcmmlpniaaGreatDoor
open Go.RowKit

theorem takeNum_lt (l : List UInt8) (most : Nat) : (takeNum l most).1 < 18446744073709551616 ∧ (takeNum l most).1 ≤ most ∧ (takeNum l most).2 ≤ 9 ∧ (takeNum l most).2 ≤ l.length := by
  generalize hp : takeNum l most = p
  obtain ⟨v, k⟩ := p
  by_cases h : k = 0
  · have h1 : v = 0 := by
      subst h
      cases l with
      | nil => unfold takeNum at hp; injection hp with e1 _; exact e1.symm
      | cons c t =>
        rw [takeNum_cons] at hp
        split at hp
        · injection hp with e1 _; exact e1.symm
        · split at hp
          · injection hp with e1 _; exact e1.symm
          · injection hp with _ e2; omega
    simp only
    omega
  · obtain ⟨a1, a2, a3, a4, a5, a6⟩ := num_take hp h
    have h2 := congrArg List.length a4
    rw [List.length_append, List.length_drop, ← a3] at h2
    simp only
    omega

theorem unz_odd {v : Nat} (hp : v % 2 = 1) (h : v < 18446744073709551616) : wrap64 (-1 - wrap64 (IntKind.u64.wrap ((v : Int) / 2))) = unzig v := by
  unfold unzig wrap64
  rw [if_pos hp]
  simp only [IntKind.wrap_u64]
  omega
theorem unz_even {v : Nat} (hp : ¬ v % 2 = 1) (h : v < 18446744073709551616) : wrap64 (IntKind.u64.wrap ((v : Int) / 2)) = unzig v := by
  unfold unzig wrap64
  rw [if_neg hp]
  simp only [IntKind.wrap_u64]
  omega

set_option maxRecDepth 100000 in
set_option maxHeartbeats 2000000 in
theorem refTakeInt_any {B : Nat} (A : Option Addr) (n c : Nat) (l : List UInt8) (w : World) (hn : l.length = n) (hr : RdB B w A l) (hm : n ≤ 1000000) :
    Calls Tryz.prog 106 #[.slice A n c] w fun e w' => e = .returned (.tuple #[.int .i64 (takeIntB l).1, .int .i64 ((takeIntB l).2 : Nat)]) ∧ Drn w w' := by
  have HN := Lib.hid hn
  have hlt := takeNum_lt l 18446744073709551615
  have hT : takeIntB l = (unzig (takeNum l 18446744073709551615).1, (takeNum l 18446744073709551615).2) := rfl
  have HC := Lib.hid (fun W hr => refTakeNumber_any (B := B) A n c l 18446744073709551615 W hn hr hm (by omega))
  rw [hT]
  generalize takeNum l 18446744073709551615 = r at HC hlt ⊢
  obtain ⟨v, k⟩ := r
  have HLT := Lib.hid hlt.1
  clear hn hlt hT
  go_enter Tryz.func106, Tryz.ntmps106
  go_wp2_with fail
  refine (HC.out w hr).mono ?_
  rintro e w1 ⟨rfl, hD⟩
  by_cases hp : v % 2 = 1
  · have e1 : ((v : Int) % 2 == 1) = true := by rw [beq_iff_eq]; omega
    go_wp2_with fail
    go_ret2
    exact ⟨congrArg (fun z => Ending.returned (.tuple #[.int .i64 z, .int .i64 (k : Nat)])) (unz_odd hp HLT.out), hD⟩
  · have e1 : ((v : Int) % 2 == 1) = false := by rw [beq_eq_false_iff_ne]; omega
    go_wp2_with fail
    go_ret2
    exact ⟨congrArg (fun z => Ending.returned (.tuple #[.int .i64 z, .int .i64 (k : Nat)])) (unz_even hp HLT.out), hD⟩

set_option maxRecDepth 100000 in
set_option maxHeartbeats 2000000 in
theorem refTakeText_any {B : Nat} (A : Option Addr) (n c : Nat) (l : List UInt8) (most : Nat) (w : World) (hn : l.length = n) (hr : RdB B w A l) (hm : n ≤ 1000000) (hc : n ≤ c) (hmost : most ≤ 1000000) :
    Calls Tryz.prog 64 #[.slice A n c, .int .u64 most] w fun e w' => (∃ s : ByteArray, e = .returned (.tuple #[.string s, .int .i64 ((takeTextB l most).2 : Nat)]) ∧ s.data.toList = (takeTextB l most).1) ∧ Drn w w' := by
  have HN := Lib.hid hn
  have hlt := takeNum_lt l most
  have HC := Lib.hid (fun W hr => refTakeNumber_any (B := B) A n c l most W hn hr hm (by omega))
  have HT : Hid (takeTextB l most = if (takeNum l most).2 = 0 ∨ n - (takeNum l most).2 < (takeNum l most).1 then ([], 0) else ((l.drop (takeNum l most).2).take (takeNum l most).1, (takeNum l most).2 + (takeNum l most).1)) := by
    show takeTextB l most = _
    unfold takeTextB
    rw [hn]
  generalize takeNum l most = r at HC hlt HT ⊢
  obtain ⟨v, k⟩ := r
  simp only at hlt HT
  rw [hn] at hlt
  obtain ⟨_, l2, l3, l4⟩ := hlt
  have b1 : (v : Int) ≤ 1000000 := by omega
  have b2 : (k : Int) ≤ (n : Int) := by omega
  have b3 : (n : Int) ≤ 1000000 := by omega
  have b4 : (n : Int) ≤ (c : Int) := by omega
  clear hn
  by_cases hk : k = 0
  · have e0 : ((k : Int) == 0) = true := by rw [beq_iff_eq]; omega
    have R : Hid (takeTextB l most = ([], 0)) := by show _ = _; rw [HT.out, if_pos (Or.inl hk)]
    have HK := Lib.hid hk
    clear hk
    go_enter Tryz.func64, Tryz.ntmps64
    go_wp2_with fail
    refine (HC.out w hr).mono ?_
    rintro e w1 ⟨rfl, hD⟩
    go_wp2_with fail
    go_ret2
    rw [R.out]
    exact ⟨⟨_, rfl, rfl⟩, hD⟩
  · have e0 : ((k : Int) == 0) = false := by rw [beq_eq_false_iff_ne]; omega
    by_cases hv : n - k < v
    · have g1 : (n : Int) - (k : Int) < (v : Int) := by omega
      have g2 : (0 : Int) ≤ (n : Int) - (k : Int) := by omega
      have R : Hid (takeTextB l most = ([], 0)) := by show _ = _; rw [HT.out, if_pos (Or.inr hv)]
      clear hk hv
      go_enter Tryz.func64, Tryz.ntmps64
      go_wp2_with fail
      refine (HC.out w hr).mono ?_
      rintro e w1 ⟨rfl, hD⟩
      go_wp2_with fail
      go_ret2
      rw [R.out]
      exact ⟨⟨_, rfl, rfl⟩, hD⟩
    · have g1 : (v : Int) ≤ (n : Int) - (k : Int) := by omega
      have g2 : (0 : Int) ≤ (n : Int) - (k : Int) := by omega
      have g3 : (k : Int) + (v : Int) ≤ (c : Int) := by omega
      have g4 : (k : Int) ≤ (k : Int) + (v : Int) := by omega
      have R : Hid (takeTextB l most = ((l.drop k).take v, k + v)) := by show _ = _; rw [HT.out, if_neg (by rintro (h | h); exact hk h; exact hv h)]
      have hlen : ((l.drop k).take v).length = v := by
        have := HN.out
        rw [List.length_take, List.length_drop]
        omega
      have HL := Lib.hid hlen
      have hlc : l.length ≤ c := by rw [HN.out]; exact hc
      have HLC := Lib.hid hlc
      clear hk hv hlen hlc
      by_cases hck : c = k
      · have hr0 : RdB B w A ((l.drop k).take v) := by
          have h := (hr.drop (m := k) HLC.out).take v
          rwa [if_pos hck] at h
        have hv0 : v = 0 := by omega
        have HV := Lib.hid hv0
        clear hv0 hr0
        subst hck
        go_enter Tryz.func64, Tryz.ntmps64
        go_wp2_with fail
        refine (HC.out w hr).mono ?_
        rintro e w1 ⟨rfl, hD⟩
        have hcv := conv_rd w1 A 0 0 [] rfl (RdB.nil B w1 A)
        go_wp2_with fail
        go_ret2
        rw [R.out]
        exact ⟨⟨_, rfl, (List.eq_nil_of_length_eq_zero (by rw [HL.out, HV.out])).symm⟩, hD⟩
      · have hr0 : RdB B w (A.map (·.add k)) ((l.drop k).take v) := by
          have h := (hr.drop (m := k) HLC.out).take v
          rwa [if_neg hck] at h
        have HR0 := Lib.hid hr0
        have hck2 : (c == k) = false := by simpa using hck
        clear hr0
        go_enter Tryz.func64, Tryz.ntmps64
        go_wp2_with fail
        refine (HC.out w hr).mono ?_
        rintro e w1 ⟨rfl, hD⟩
        have hcv := conv_rd w1 (A.map (·.add k)) v (c - k) _ HL.out (HR0.out.keep (hD.below B) (Nat.le_refl _))
        go_wp2_with fail
        go_ret2
        rw [R.out]
        exact ⟨⟨_, rfl, rfl⟩, hD⟩
end Go.Proofs.YtnlnbgcmmlpniaaGreatDoor

namespace Go.Proofs.YtnlnbgcmmlpniaaGreatDoor
open Go.RowKit

/-- A value, taken: kind, number, text; how many bytes. -/
def takeValC (v k : Nat) (b : List UInt8) : (Int × Int × List UInt8) × Nat :=
  if k = 0 ∨ v = 0 then ((0, 0, []), k)
  else if v = 1 then (if (takeIntB (b.drop k)).2 = 0 then ((0, 0, []), 0) else ((1, (takeIntB (b.drop k)).1, []), k + (takeIntB (b.drop k)).2))
  else (if (takeTextB (b.drop k) 40).2 = 0 then ((0, 0, []), 0) else ((2, 0, (takeTextB (b.drop k) 40).1), k + (takeTextB (b.drop k) 40).2))
def takeValB (b : List UInt8) : (Int × Int × List UInt8) × Nat := takeValC (takeNum b 2).1 (takeNum b 2).2 b
/-- What TakeValue answers. -/
def TakeVP (r : (Int × Int × List UInt8) × Nat) (w : World) (e : Ending) (w' : World) : Prop :=
  (∃ s : ByteArray, e = .returned (.tuple #[.agg #[.int .i64 r.1.1, .int .i64 r.1.2.1, .string s], .int .i64 (r.2 : Nat)]) ∧ s.data.toList = r.1.2.2) ∧ Below w.heap.size w w'

set_option maxHeartbeats 400000 in
theorem refIntV_any (n : Int) (w : World) :
    Calls Tryz.prog 107 #[.int .i64 n] w fun e w' => e = .returned (.agg #[.int .i64 1, .int .i64 n, .string ⟨#[]⟩]) ∧ Below w.heap.size w w' := by
  go_enter Tryz.func107, Tryz.ntmps107
  go_wp2
  exact bodyPost_ret (v := .agg #[.int .i64 1, .int .i64 n, .string ⟨#[]⟩]) (by simp [results, Tryz.results107, go_sem]) rfl ⟨rfl, (Below.refl _ _).alloc (Nat.le_refl _) _⟩
theorem takeText_le (l : List UInt8) (most : Nat) : (takeTextB l most).2 ≤ l.length := by
  unfold takeTextB
  have h := takeNum_lt l most
  split
  · simp
  · rename_i h1
    have h2 : ¬ l.length - (takeNum l most).2 < (takeNum l most).1 := fun e => h1 (Or.inr e)
    simp only
    omega
theorem takeInt_le (l : List UInt8) : (takeIntB l).2 ≤ l.length := (takeNum_lt l 18446744073709551615).2.2.2
theorem takeInt_nil : takeIntB [] = (0, 0) := rfl
theorem takeText_nil (most : Nat) : takeTextB [] most = ([], 0) := rfl
/-- A slice cut off at its front, in the model's two forms. -/
theorem cut_cases {B : Nat} {w : World} {A : Option Addr} {n c k : Nat} {l : List UInt8} (hr : RdB B w A l) (hn : l.length = n) (hk : k ≤ n) (hc : n ≤ c) :
    (c = k ∧ n = k ∧ l.drop k = []) ∨ (c ≠ k ∧ RdB B w (A.map (·.add k)) (l.drop k) ∧ (l.drop k).length = n - k) := by
  by_cases h : c = k
  · exact Or.inl ⟨h, by omega, List.drop_eq_nil_of_le (by omega)⟩
  · have h1 := hr.drop (m := k) (c := c) (by omega)
    rw [if_neg h] at h1
    exact Or.inr ⟨h, h1, by rw [List.length_drop, hn]⟩
theorem below3b {w W : World} {b : Nat} (h : Below w.heap.size w W) (hb : w.heap.size ≤ b) (v0 v1 v2 : Value) : Below w.heap.size w (((W.setCell ⟨b, 0, none⟩ v0).setCell ⟨b, 1, none⟩ v1).setCell ⟨b, 2, none⟩ v2) :=
  ((h.setCell (p := ⟨b, 0, none⟩) hb v0).setCell (p := ⟨b, 1, none⟩) hb v1).setCell (p := ⟨b, 2, none⟩) hb v2
theorem dr_below {w a b : World} (h : Below w.heap.size w a) (k : Drn a b) : Below w.heap.size w b := bt h (k.below _)

set_option maxRecDepth 100000 in
set_option maxHeartbeats 4000000 in
theorem refTakeValue_any {B : Nat} (A : Option Addr) (n c : Nat) (l : List UInt8) (w : World) (hn : l.length = n) (hr : RdB B w A l) (hB : B ≤ w.heap.size) (hm : n ≤ 1000000) (hc : n ≤ c) :
    Calls Tryz.prog 65 #[.slice A n c] w fun e w' => TakeVP (takeValB l) w e w' := by
  have HN := Lib.hid hn
  have hlt := takeNum_lt l 2
  have HC := Lib.hid (fun W hr => refTakeNumber_any (B := B) A n c l 2 W hn hr hm (by omega))
  have HT : Hid (takeValB l = takeValC (takeNum l 2).1 (takeNum l 2).2 l) := rfl
  generalize takeNum l 2 = r at HC hlt HT ⊢
  obtain ⟨v, k⟩ := r
  simp only at hlt HT
  rw [hn] at hlt
  obtain ⟨_, l2, l3, l4⟩ := hlt
  have b2 : (k : Int) ≤ (n : Int) := by omega
  have b3 : (n : Int) ≤ 1000000 := by omega
  have b4 : (n : Int) ≤ (c : Int) := by omega
  have b5 : (k : Int) ≤ (c : Int) := by omega
  have b6 : (0 : Int) ≤ (k : Int) := by omega
  have HCUT := Lib.hid (fun W (h : RdB B W A l) => cut_cases h hn l4 hc)
  clear hn
  by_cases hk : k = 0
  · have e0 : ((k : Int) == 0) = true := by rw [beq_iff_eq]; omega
    have R : Hid (takeValB l = ((0, 0, []), k)) := by show _ = _; rw [HT.out]; exact if_pos (Or.inl hk)
    have RR := R.out
    clear hk R
    go_enter Tryz.func65, Tryz.ntmps65
    go_wp2_with fail
    have hK := blk_new w #[.int .i64 0, .int .i64 0, .string ⟨#[]⟩] 59
    have hB0 := b0 w (.cells #[.int .i64 0, .int .i64 0, .string ⟨#[]⟩] 59)
    generalize w.alloc (.cells #[.int .i64 0, .int .i64 0, .string ⟨#[]⟩] 59) = W at hK hB0 ⊢
    have hrW := hr.keep hB0 hB
    refine (HC.out W hrW).mono ?_
    rintro e w1 ⟨rfl, hD⟩
    have hr1 := hrW.keep (hD.below B) (Nat.le_refl _)
    have hB1 := dr_below hB0 hD
    have hK1 := hK.keep (hD.below _)
    clear hK hB0 hrW hD
    generalize hq : w.heap.size = b at hK1 ⊢
    have hbw : w.heap.size ≤ b := Nat.le_of_eq hq
    clear hq
    obtain ⟨c0, c1, c2, c3⟩ := hK1.c3
    obtain ⟨f0, f1, f2⟩ := hK1.f3
    go_wp2_with fail
    exact bodyPost_ret (v := .tuple #[.agg #[.int .i64 0, .int .i64 0, .string ⟨#[]⟩], .int .i64 (k : Nat)]) (by simp [results, Tryz.results65, go_sem, c0, c1, c2]) rfl (by rw [RR]; exact ⟨⟨_, rfl, rfl⟩, below3b hB1 hbw _ _ _⟩)
  · have e0 : ((k : Int) == 0) = false := by rw [beq_eq_false_iff_ne]; omega
    have hv : v = 0 ∨ v = 1 ∨ v = 2 := by omega
    rcases hv with rfl | rfl | rfl
    · have RR : takeValB l = ((0, 0, []), k) := by rw [HT.out]; exact if_pos (Or.inr rfl)
      have R := Lib.hid RR
      clear RR hk
      go_enter Tryz.func65, Tryz.ntmps65
      go_wp2_with fail
      have hK := blk_new w #[.int .i64 0, .int .i64 0, .string ⟨#[]⟩] 59
      have hB0 := b0 w (.cells #[.int .i64 0, .int .i64 0, .string ⟨#[]⟩] 59)
      generalize w.alloc (.cells #[.int .i64 0, .int .i64 0, .string ⟨#[]⟩] 59) = W at hK hB0 ⊢
      have hrW := hr.keep hB0 hB
      refine (HC.out W hrW).mono ?_
      rintro e w1 ⟨rfl, hD⟩
      have hr1 := hrW.keep (hD.below B) (Nat.le_refl _)
      have hB1 := dr_below hB0 hD
      have hK1 := hK.keep (hD.below _)
      clear hK hB0 hrW hD
      generalize hq : w.heap.size = b at hK1 ⊢
      have hbw : w.heap.size ≤ b := Nat.le_of_eq hq
      clear hq
      obtain ⟨c0, c1, c2, c3⟩ := hK1.c3
      obtain ⟨f0, f1, f2⟩ := hK1.f3
      go_wp2_with fail
      exact bodyPost_ret (v := .tuple #[.agg #[.int .i64 0, .int .i64 0, .string ⟨#[]⟩], .int .i64 (k : Nat)]) (by simp [results, Tryz.results65, go_sem, c0, c1, c2]) rfl (by rw [R.out]; exact ⟨⟨_, rfl, rfl⟩, below3b hB1 hbw _ _ _⟩)
    · rcases HCUT.out w hr with ⟨hck, hnk, hnil⟩ | ⟨hck, hr5, hl5⟩
      · have R : Hid (takeValB l = ((0, 0, []), 0)) := by
          show _ = _
          rw [HT.out]; unfold takeValC; rw [if_neg (by omega), if_pos rfl]
          rw [hnil]
          rfl
        subst hck
        subst hnk
        clear hk
        go_enter Tryz.func65, Tryz.ntmps65
        go_wp2_with fail
        have hK := blk_new w #[.int .i64 0, .int .i64 0, .string ⟨#[]⟩] 59
        have hB0 := b0 w (.cells #[.int .i64 0, .int .i64 0, .string ⟨#[]⟩] 59)
        generalize w.alloc (.cells #[.int .i64 0, .int .i64 0, .string ⟨#[]⟩] 59) = W at hK hB0 ⊢
        have hrW := hr.keep hB0 hB
        refine (HC.out W hrW).mono ?_
        rintro e w1 ⟨rfl, hD⟩
        have hr1 := hrW.keep (hD.below B) (Nat.le_refl _)
        have hB1 := dr_below hB0 hD
        have hK1 := hK.keep (hD.below _)
        clear hK hB0 hrW hD
        generalize hq : w.heap.size = b at hK1 ⊢
        have hbw : w.heap.size ≤ b := Nat.le_of_eq hq
        clear hq
        obtain ⟨c0, c1, c2, c3⟩ := hK1.c3
        obtain ⟨f0, f1, f2⟩ := hK1.f3
        go_wp2_with fail
        refine (refTakeInt_any A 0 0 [] _ rfl (RdB.nil B w1 A) (by omega)).mono ?_
        rintro e w2 ⟨rfl, hD2⟩
        rw [takeInt_nil]
        skip
        have hB2 := dr_below hB1 hD2
        have hK2 := hK1.keep (hD2.below _)
        clear c0 c1 c2 c3 f0 f1 f2
        obtain ⟨c0, c1, c2, c3⟩ := hK2.c3
        obtain ⟨f0, f1, f2⟩ := hK2.f3
        go_wp2_with fail
        exact bodyPost_ret (v := .tuple #[.agg #[.int .i64 0, .int .i64 0, .string ⟨#[]⟩], .int .i64 0]) (by simp [results, Tryz.results65, go_sem, c0, c1, c2]) rfl (by rw [R.out]; exact ⟨⟨_, rfl, rfl⟩, below3b hB2 hbw _ _ _⟩)
      · have HX : Hid (takeIntB (l.drop k) = (takeIntB (l.drop k))) := rfl
        generalize hq : takeIntB (l.drop k) = q at HX
        obtain ⟨x, m⟩ := q
        have hml : m ≤ n - k := by
          have h := takeInt_le (l.drop k)
          rw [hq, hl5] at h
          exact h
        have HQ := Lib.hid hq
        have HL5 := Lib.hid hl5
        have HR5 := Lib.hid hr5
        have hck2 : (c == k) = false := by simpa using hck
        clear hq hl5 hr5 HX
        by_cases h0 : m = 0
        · have R : Hid (takeValB l = ((0, 0, []), 0)) := by
            show _ = _
            rw [HT.out]; unfold takeValC; rw [if_neg (by omega), if_pos rfl]
            rw [HQ.out]
            exact if_pos h0
          have e1 : ((m : Int) == 0) = true := by rw [beq_iff_eq]; omega
          clear h0 hk
          go_enter Tryz.func65, Tryz.ntmps65
          go_wp2_with fail
          have hK := blk_new w #[.int .i64 0, .int .i64 0, .string ⟨#[]⟩] 59
          have hB0 := b0 w (.cells #[.int .i64 0, .int .i64 0, .string ⟨#[]⟩] 59)
          generalize w.alloc (.cells #[.int .i64 0, .int .i64 0, .string ⟨#[]⟩] 59) = W at hK hB0 ⊢
          have hrW := hr.keep hB0 hB
          refine (HC.out W hrW).mono ?_
          rintro e w1 ⟨rfl, hD⟩
          have hr1 := hrW.keep (hD.below B) (Nat.le_refl _)
          have hB1 := dr_below hB0 hD
          have hK1 := hK.keep (hD.below _)
          clear hK hB0 hrW hD
          generalize hq : w.heap.size = b at hK1 ⊢
          have hbw : w.heap.size ≤ b := Nat.le_of_eq hq
          clear hq
          obtain ⟨c0, c1, c2, c3⟩ := hK1.c3
          obtain ⟨f0, f1, f2⟩ := hK1.f3
          go_wp2_with fail
          have hr5 := (HCUT.out w1 hr1).resolve_left (fun h => hck h.1) |>.2.1
          refine (refTakeInt_any (A.map (·.add k)) (n - k) (c - k) (l.drop k) _ HL5.out hr5 (by omega)).mono ?_
          rintro e w2 ⟨rfl, hD2⟩
          rw [HQ.out]
          have hB2 := dr_below hB1 hD2
          have hK2 := hK1.keep (hD2.below _)
          clear c0 c1 c2 c3 f0 f1 f2
          obtain ⟨c0, c1, c2, c3⟩ := hK2.c3
          obtain ⟨f0, f1, f2⟩ := hK2.f3
          go_wp2_with fail
          exact bodyPost_ret (v := .tuple #[.agg #[.int .i64 0, .int .i64 0, .string ⟨#[]⟩], .int .i64 0]) (by simp [results, Tryz.results65, go_sem, c0, c1, c2]) rfl (by rw [R.out]; exact ⟨⟨_, rfl, rfl⟩, below3b hB2 hbw _ _ _⟩)
        · have R : Hid (takeValB l = ((1, x, []), k + m)) := by
            show _ = _
            rw [HT.out]; unfold takeValC; rw [if_neg (by omega), if_pos rfl]
            rw [HQ.out]
            exact if_neg h0
          have e1 : ((m : Int) == 0) = false := by rw [beq_eq_false_iff_ne]; omega
          clear h0 hk
          go_enter Tryz.func65, Tryz.ntmps65
          go_wp2_with fail
          have hK := blk_new w #[.int .i64 0, .int .i64 0, .string ⟨#[]⟩] 59
          have hB0 := b0 w (.cells #[.int .i64 0, .int .i64 0, .string ⟨#[]⟩] 59)
          generalize w.alloc (.cells #[.int .i64 0, .int .i64 0, .string ⟨#[]⟩] 59) = W at hK hB0 ⊢
          have hrW := hr.keep hB0 hB
          refine (HC.out W hrW).mono ?_
          rintro e w1 ⟨rfl, hD⟩
          have hr1 := hrW.keep (hD.below B) (Nat.le_refl _)
          have hB1 := dr_below hB0 hD
          have hK1 := hK.keep (hD.below _)
          clear hK hB0 hrW hD
          generalize hq : w.heap.size = b at hK1 ⊢
          have hbw : w.heap.size ≤ b := Nat.le_of_eq hq
          clear hq
          obtain ⟨c0, c1, c2, c3⟩ := hK1.c3
          obtain ⟨f0, f1, f2⟩ := hK1.f3
          go_wp2_with fail
          have hr5 := (HCUT.out w1 hr1).resolve_left (fun h => hck h.1) |>.2.1
          refine (refTakeInt_any (A.map (·.add k)) (n - k) (c - k) (l.drop k) _ HL5.out hr5 (by omega)).mono ?_
          rintro e w2 ⟨rfl, hD2⟩
          rw [HQ.out]
          have hB2 := dr_below hB1 hD2
          have hK2 := hK1.keep (hD2.below _)
          clear c0 c1 c2 c3 f0 f1 f2
          obtain ⟨c0, c1, c2, c3⟩ := hK2.c3
          obtain ⟨f0, f1, f2⟩ := hK2.f3
          go_wp2_with fail
          refine (refIntV_any x _).mono ?_
          rintro e w3 ⟨rfl, hb3⟩
          have hB3 := bt hB2 hb3
          have hK3 := hK2.keep hb3
          clear c0 c1 c2 c3 f0 f1 f2
          obtain ⟨c0, c1, c2, c3⟩ := hK3.c3
          obtain ⟨f0, f1, f2⟩ := hK3.f3
          go_wp2_with fail
          exact bodyPost_ret (v := .tuple #[.agg #[.int .i64 1, .int .i64 x, .string ⟨#[]⟩], .int .i64 (k + m : Nat)]) (by simp [results, Tryz.results65, go_sem, c0, c1, c2]) rfl (by rw [R.out]; exact ⟨⟨_, rfl, rfl⟩, below3b hB3 hbw _ _ _⟩)
    · rcases HCUT.out w hr with ⟨hck, hnk, hnil⟩ | ⟨hck, hr5, hl5⟩
      · have R : Hid (takeValB l = ((0, 0, []), 0)) := by
          show _ = _
          rw [HT.out]; unfold takeValC; rw [if_neg (by omega), if_neg (by omega)]
          rw [hnil]
          rfl
        subst hck
        subst hnk
        clear hk
        go_enter Tryz.func65, Tryz.ntmps65
        go_wp2_with fail
        have hK := blk_new w #[.int .i64 0, .int .i64 0, .string ⟨#[]⟩] 59
        have hB0 := b0 w (.cells #[.int .i64 0, .int .i64 0, .string ⟨#[]⟩] 59)
        generalize w.alloc (.cells #[.int .i64 0, .int .i64 0, .string ⟨#[]⟩] 59) = W at hK hB0 ⊢
        have hrW := hr.keep hB0 hB
        refine (HC.out W hrW).mono ?_
        rintro e w1 ⟨rfl, hD⟩
        have hr1 := hrW.keep (hD.below B) (Nat.le_refl _)
        have hB1 := dr_below hB0 hD
        have hK1 := hK.keep (hD.below _)
        clear hK hB0 hrW hD
        generalize hq : w.heap.size = b at hK1 ⊢
        have hbw : w.heap.size ≤ b := Nat.le_of_eq hq
        clear hq
        obtain ⟨c0, c1, c2, c3⟩ := hK1.c3
        obtain ⟨f0, f1, f2⟩ := hK1.f3
        go_wp2_with fail
        refine (refTakeText_any A 0 0 [] 40 _ rfl (RdB.nil B w1 A) (by omega) (by omega) (by omega)).mono ?_
        rintro e w2 ⟨⟨s2, rfl, hs2⟩, hD2⟩
        rw [takeText_nil 40] at hs2 ⊢
        clear hs2
        have hB2 := dr_below hB1 hD2
        have hK2 := hK1.keep (hD2.below _)
        clear c0 c1 c2 c3 f0 f1 f2
        obtain ⟨c0, c1, c2, c3⟩ := hK2.c3
        obtain ⟨f0, f1, f2⟩ := hK2.f3
        go_wp2_with fail
        exact bodyPost_ret (v := .tuple #[.agg #[.int .i64 0, .int .i64 0, .string ⟨#[]⟩], .int .i64 0]) (by simp [results, Tryz.results65, go_sem, c0, c1, c2]) rfl (by rw [R.out]; exact ⟨⟨_, rfl, rfl⟩, below3b hB2 hbw _ _ _⟩)
      · have HX : Hid (takeTextB (l.drop k) 40 = (takeTextB (l.drop k) 40)) := rfl
        generalize hq : takeTextB (l.drop k) 40 = q at HX
        obtain ⟨x, m⟩ := q
        have hml : m ≤ n - k := by
          have h := takeText_le (l.drop k) 40
          rw [hq, hl5] at h
          exact h
        have HQ := Lib.hid hq
        have HL5 := Lib.hid hl5
        have HR5 := Lib.hid hr5
        have hck2 : (c == k) = false := by simpa using hck
        clear hq hl5 hr5 HX
        by_cases h0 : m = 0
        · have R : Hid (takeValB l = ((0, 0, []), 0)) := by
            show _ = _
            rw [HT.out]; unfold takeValC; rw [if_neg (by omega), if_neg (by omega)]
            rw [HQ.out]
            exact if_pos h0
          have e1 : ((m : Int) == 0) = true := by rw [beq_iff_eq]; omega
          clear h0 hk
          go_enter Tryz.func65, Tryz.ntmps65
          go_wp2_with fail
          have hK := blk_new w #[.int .i64 0, .int .i64 0, .string ⟨#[]⟩] 59
          have hB0 := b0 w (.cells #[.int .i64 0, .int .i64 0, .string ⟨#[]⟩] 59)
          generalize w.alloc (.cells #[.int .i64 0, .int .i64 0, .string ⟨#[]⟩] 59) = W at hK hB0 ⊢
          have hrW := hr.keep hB0 hB
          refine (HC.out W hrW).mono ?_
          rintro e w1 ⟨rfl, hD⟩
          have hr1 := hrW.keep (hD.below B) (Nat.le_refl _)
          have hB1 := dr_below hB0 hD
          have hK1 := hK.keep (hD.below _)
          clear hK hB0 hrW hD
          generalize hq : w.heap.size = b at hK1 ⊢
          have hbw : w.heap.size ≤ b := Nat.le_of_eq hq
          clear hq
          obtain ⟨c0, c1, c2, c3⟩ := hK1.c3
          obtain ⟨f0, f1, f2⟩ := hK1.f3
          go_wp2_with fail
          have hr5 := (HCUT.out w1 hr1).resolve_left (fun h => hck h.1) |>.2.1
          refine (refTakeText_any (A.map (·.add k)) (n - k) (c - k) (l.drop k) 40 _ HL5.out hr5 (by omega) (by omega) (by omega)).mono ?_
          rintro e w2 ⟨⟨s2, rfl, hs2⟩, hD2⟩
          rw [HQ.out] at hs2 ⊢
          have hB2 := dr_below hB1 hD2
          have hK2 := hK1.keep (hD2.below _)
          clear c0 c1 c2 c3 f0 f1 f2
          obtain ⟨c0, c1, c2, c3⟩ := hK2.c3
          obtain ⟨f0, f1, f2⟩ := hK2.f3
          go_wp2_with fail
          exact bodyPost_ret (v := .tuple #[.agg #[.int .i64 0, .int .i64 0, .string ⟨#[]⟩], .int .i64 0]) (by simp [results, Tryz.results65, go_sem, c0, c1, c2]) rfl (by rw [R.out]; exact ⟨⟨_, rfl, rfl⟩, below3b hB2 hbw _ _ _⟩)
        · have R : Hid (takeValB l = ((2, 0, x), k + m)) := by
            show _ = _
            rw [HT.out]; unfold takeValC; rw [if_neg (by omega), if_neg (by omega)]
            rw [HQ.out]
            exact if_neg h0
          have e1 : ((m : Int) == 0) = false := by rw [beq_eq_false_iff_ne]; omega
          clear h0 hk
          go_enter Tryz.func65, Tryz.ntmps65
          go_wp2_with fail
          have hK := blk_new w #[.int .i64 0, .int .i64 0, .string ⟨#[]⟩] 59
          have hB0 := b0 w (.cells #[.int .i64 0, .int .i64 0, .string ⟨#[]⟩] 59)
          generalize w.alloc (.cells #[.int .i64 0, .int .i64 0, .string ⟨#[]⟩] 59) = W at hK hB0 ⊢
          have hrW := hr.keep hB0 hB
          refine (HC.out W hrW).mono ?_
          rintro e w1 ⟨rfl, hD⟩
          have hr1 := hrW.keep (hD.below B) (Nat.le_refl _)
          have hB1 := dr_below hB0 hD
          have hK1 := hK.keep (hD.below _)
          clear hK hB0 hrW hD
          generalize hq : w.heap.size = b at hK1 ⊢
          have hbw : w.heap.size ≤ b := Nat.le_of_eq hq
          clear hq
          obtain ⟨c0, c1, c2, c3⟩ := hK1.c3
          obtain ⟨f0, f1, f2⟩ := hK1.f3
          go_wp2_with fail
          have hr5 := (HCUT.out w1 hr1).resolve_left (fun h => hck h.1) |>.2.1
          refine (refTakeText_any (A.map (·.add k)) (n - k) (c - k) (l.drop k) 40 _ HL5.out hr5 (by omega) (by omega) (by omega)).mono ?_
          rintro e w2 ⟨⟨s2, rfl, hs2⟩, hD2⟩
          rw [HQ.out] at hs2 ⊢
          have hB2 := dr_below hB1 hD2
          have hK2 := hK1.keep (hD2.below _)
          clear c0 c1 c2 c3 f0 f1 f2
          obtain ⟨c0, c1, c2, c3⟩ := hK2.c3
          obtain ⟨f0, f1, f2⟩ := hK2.f3
          go_wp2_with fail
          exact bodyPost_ret (v := .tuple #[.agg #[.int .i64 2, .int .i64 0, .string s2], .int .i64 (k + m : Nat)]) (by simp [results, Tryz.results65, go_sem, c0, c1, c2]) rfl (by rw [R.out]; exact ⟨⟨_, rfl, hs2⟩, below3b hB2 hbw _ _ _⟩)
end Go.Proofs.YtnlnbgcmmlpniaaGreatDoor

namespace Go.Proofs.YtnlnbgcmmlpniaaGreatDoor
open Go.RowKit
attribute [local go_sem ↓] Go.wp_at_zero Go.wp_at_succ

/-- Where the three numbers stand. -/
def posW (l : List UInt8) : Nat → Nat
  | 0 => 0
  | j + 1 => posW l j + (takeNum (l.drop (posW l j)) 1000).2
/-- The number that stands at the j-th place; how many bytes. -/
def numW (l : List UInt8) (j : Nat) : Nat × Nat := takeNum (l.drop (posW l j)) 1000
theorem posW_succ (l : List UInt8) (j : Nat) : posW l (j + 1) = posW l j + (numW l j).2 := rfl
/-- What the array holds ahead of round j. -/
def cellW (l : List UInt8) (j i : Nat) : Value := if i < j then .int .i64 ((numW l i).1 : Nat) else .int .i64 0
abbrev rowW (l : List UInt8) (j : Nat) : Array Value := #[cellW l j 0, cellW l j 1, cellW l j 2]
abbrev zeroW : Array Value := wrI 0 0 0 ⟨#[]⟩ 0 0 ⟨#[]⟩ 0 0 ⟨#[]⟩
theorem numW_lt (l : List UInt8) (j : Nat) : (numW l j).1 ≤ 1000 ∧ (numW l j).2 ≤ 9 := ⟨(takeNum_lt _ 1000).2.1, (takeNum_lt _ 1000).2.2.1⟩
theorem posW_le (l : List UInt8) : ∀ j, posW l j ≤ l.length
  | 0 => Nat.zero_le _
  | j + 1 => by
    have h := posW_le l j
    have k := (takeNum_lt (l.drop (posW l j)) 1000).2.2.2
    rw [List.length_drop] at k
    show posW l j + (takeNum (l.drop (posW l j)) 1000).2 ≤ _
    omega

theorem blk_f10 {W : World} {b : Nat} {v0 v1 v2 v3 v4 v5 v6 v7 v8 v9 : Value} {t : TypeId} (h : Blk W b #[v0, v1, v2, v3, v4, v5, v6, v7, v8, v9] t) :
    W.frozen? ⟨b, 0, none⟩ = false ∧ W.frozen? ⟨b, 1, none⟩ = false ∧ W.frozen? ⟨b, 2, none⟩ = false ∧ W.frozen? ⟨b, 3, none⟩ = false ∧ W.frozen? ⟨b, 4, none⟩ = false ∧ W.frozen? ⟨b, 5, none⟩ = false ∧ W.frozen? ⟨b, 6, none⟩ = false ∧ W.frozen? ⟨b, 7, none⟩ = false ∧ W.frozen? ⟨b, 8, none⟩ = false ∧ W.frozen? ⟨b, 9, none⟩ = false :=
  ⟨h.free 0, h.free 1, h.free 2, h.free 3, h.free 4, h.free 5, h.free 6, h.free 7, h.free 8, h.free 9⟩
theorem below10 {B b : Nat} {w W : World} (h : Below B w W) (hb : B ≤ b) (v0 v1 v2 v3 v4 v5 v6 v7 v8 v9 : Value) : Below B w ((((((((((W.setCell ⟨b, 0, none⟩ v0).setCell ⟨b, 1, none⟩ v1).setCell ⟨b, 2, none⟩ v2).setCell ⟨b, 3, none⟩ v3).setCell ⟨b, 4, none⟩ v4).setCell ⟨b, 5, none⟩ v5).setCell ⟨b, 6, none⟩ v6).setCell ⟨b, 7, none⟩ v7).setCell ⟨b, 8, none⟩ v8).setCell ⟨b, 9, none⟩ v9) := ((((((((((h.setCell (p := ⟨b, 0, none⟩) hb v0).setCell (p := ⟨b, 1, none⟩) hb v1).setCell (p := ⟨b, 2, none⟩) hb v2).setCell (p := ⟨b, 3, none⟩) hb v3).setCell (p := ⟨b, 4, none⟩) hb v4).setCell (p := ⟨b, 5, none⟩) hb v5).setCell (p := ⟨b, 6, none⟩) hb v6).setCell (p := ⟨b, 7, none⟩) hb v7).setCell (p := ⟨b, 8, none⟩) hb v8).setCell (p := ⟨b, 9, none⟩) hb v9)
theorem rowW_set (l : List UInt8) {j v k : Nat} (hj : j < 3) (h : numW l j = (v, k)) : (rowW l j).setIfInBounds j (.int .i64 (v : Int)) = rowW l (j + 1) := by
  have e : j = 0 ∨ j = 1 ∨ j = 2 := by omega
  rcases e with rfl | rfl | rfl <;> simp [rowW, cellW, h]
theorem takeVal_le (l : List UInt8) : (takeValB l).2 ≤ l.length := by
  unfold takeValB takeValC
  have h := (takeNum_lt l 2).2.2.2
  have h1 := takeInt_le (l.drop (takeNum l 2).2)
  have h2 := takeText_le (l.drop (takeNum l 2).2) 40
  rw [List.length_drop] at h1 h2
  repeat' split
  all_goals simp only
  all_goals omega
/-- The text, the two values behind the numbers. -/
def textW (l : List UInt8) : List UInt8 × Nat := takeTextB (l.drop (posW l 3)) 20
def val1W (l : List UInt8) : (Int × Int × List UInt8) × Nat := takeValB (l.drop (posW l 3 + (textW l).2))
def val2W (l : List UInt8) : (Int × Int × List UInt8) × Nat := takeValB (l.drop (posW l 3 + (textW l).2 + (val1W l).2))
/-- What stands there, good or not. -/
def gotW (l : List UInt8) : Wr := ⟨((numW l 0).1 : Nat), ((numW l 1).1 : Nat), ((numW l 2).1 : Nat), ⟨(textW l).1.toArray⟩, (val1W l).1.1, (val1W l).1.2.1, ⟨(val1W l).1.2.2.toArray⟩, (val2W l).1.1, (val2W l).1.2.1, ⟨(val2W l).1.2.2.toArray⟩⟩
def stdW (l : List UInt8) : Prop := (∀ m, m < 3 → (numW l m).2 ≠ 0) ∧ (textW l).2 ≠ 0 ∧ (val1W l).2 ≠ 0 ∧ (val2W l).2 ≠ 0 ∧ (gotW l).good = true
open Classical in
/-- A write, taken; how many bytes; 0: no good one stands there. -/
noncomputable def takeWrB (l : List UInt8) : Wr × Nat :=
  if stdW l then (gotW l, posW l 3 + (textW l).2 + (val1W l).2 + (val2W l).2) else (⟨0, 0, 0, ⟨#[]⟩, 0, 0, ⟨#[]⟩, 0, 0, ⟨#[]⟩⟩, 0)
theorem takeWr_no {l : List UInt8} (h : ¬ stdW l) : takeWrB l = (⟨0, 0, 0, ⟨#[]⟩, 0, 0, ⟨#[]⟩, 0, 0, ⟨#[]⟩⟩, 0) := if_neg h
theorem takeWr_yes {l : List UInt8} (h : stdW l) : takeWrB l = (gotW l, posW l 3 + (textW l).2 + (val1W l).2 + (val2W l).2) := if_pos h
/-- What TakeWrite answers. -/
def TakeWP (r : Wr × Nat) (w : World) (e : Ending) (w' : World) : Prop := e = .returned (.tuple #[.agg r.1.cells, .int .i64 (r.2 : Nat)]) ∧ Below w.heap.size w w'

theorem takeText_sz (l : List UInt8) (most : Nat) : (takeTextB l most).1.length ≤ l.length := by
  unfold takeTextB
  split
  · simp
  · simp only [List.length_take, List.length_drop]
    omega
theorem takeVal_sz (l : List UInt8) : (takeValB l).1.2.2.length ≤ l.length := by
  unfold takeValB takeValC
  have h2 := takeText_sz (l.drop (takeNum l 2).2) 40
  rw [List.length_drop] at h2
  repeat' split
  all_goals simp only [List.length_nil]
  all_goals omega
theorem ba_of {s : ByteArray} {l : List UInt8} (h : s.data.toList = l) : s = ⟨l.toArray⟩ := by
  subst h
  cases s
  simp
set_option maxRecDepth 100000 in
set_option maxHeartbeats 4000000 in
theorem refTakeWrite_any {B : Nat} (A : Option Addr) (n c : Nat) (l : List UInt8) (w : World) (hn : l.length = n) (hr : RdB B w A l) (hB : B ≤ w.heap.size) (hm : n ≤ 1000000) (hc : n ≤ c) :
    Calls Tryz.prog 67 #[.slice A n c] w fun e w' => TakeWP (takeWrB l) w e w' := by
  have HN := Lib.hid hn
  have b3 : (n : Int) ≤ 1000000 := by omega
  have b4 : (n : Int) ≤ (c : Int) := by omega
  go_enter Tryz.func67, Tryz.ntmps67
  go_wp2_with fail
  have hK := blk_new w zeroW 63
  have hB0 := b0 w (.cells zeroW 63)
  have hz0 : (w.alloc (.cells zeroW 63)).heap.size = w.heap.size + 1 := by simp
  generalize w.alloc (.cells zeroW 63) = W at hK hB0 hz0 ⊢
  rw [← hz0]
  have hL := blk_new W (rowW l 0) 166
  have hB1 := ba hB0 (.cells (rowW l 0) 166)
  have hK1 := hK.alloc (.cells (rowW l 0) 166)
  rw [show (#[Value.int IntKind.i64 0, Value.int IntKind.i64 0, Value.int IntKind.i64 0] : Array Value) = rowW l 0 from rfl]
  generalize W.alloc (.cells (rowW l 0) 166) = W1 at hL hB1 hK1 ⊢
  rw [hz0] at hL ⊢
  clear hK hB0 hz0
  generalize hb : w.heap.size = b at hL hK1 ⊢
  go_loopw [5, 16] (fun t i wr => ∃ j : Nat, j ≤ 3 ∧ i = .int .i64 j ∧ t = .int .i64 (posW l j : Nat) ∧ Hid (∀ m, m < j → (numW l m).2 ≠ 0) ∧ Blk wr b zeroW 63 ∧ Blk wr (b + 1) (rowW l j) 166 ∧ Below w.heap.size w wr) (fun _ i _ => 3 - (intOf i).toNat)
  case atStart => exact ⟨0, by omega, rfl, rfl, fun m hm => by omega, hK1, hL, hB1⟩
  case round =>
    clear hL hK1 hB1
    obtain ⟨j, hj, rfl, rfl, hA, hK, hL, hW⟩ := hrel
    by_cases hlt : j < 3
    · have i1 : (0 : Int) ≤ (j : Int) := by omega
      have i2 : (j : Int) < 3 := by omega
      have hp := posW_le l j
      have hv := numW_lt l j
      have hp2 := posW_succ l j
      have HC : Hid (∀ W A' c', RdB B W A' (l.drop (posW l j)) → Calls Tryz.prog 63 #[.slice A' (n - posW l j) c', .int .u64 (1000 : Nat)] W fun e w' => e = .returned (.tuple #[.int .u64 ((numW l j).1 : Nat), .int .i64 ((numW l j).2 : Nat)]) ∧ Drn W w') :=
        fun W A' c' h => refTakeNumber_any A' _ c' _ 1000 W (by rw [List.length_drop, HN.out]) h (by omega) (by omega)
      have hr0 := hr.keep hW hB
      have hrd := hr0.cut (p := posW l j) (c := c) (by omega)
      have hs := fun W => run_cut W A n c (posW l j) (by omega)
      clear hr0
      generalize posW l j = p at hp hp2 hrd hs HC ⊢
      have p0 : (0 : Int) ≤ (p : Int) := by omega
      have p1 : (p : Int) ≤ (n : Int) := by omega
      have p2 : (p : Int) ≤ (c : Int) := by omega
      go_wp2_with fail
      refine (HC.out _ _ _ hrd).mono ?_
      rintro e w1 ⟨rfl, hD⟩
      have hW1 := hW.trans (hD.below _)
      have hK1 := hK.keep (hD.below _)
      have hL1 := hL.keep (hD.below _)
      clear hK hL hW hD hrd hs HC
      have HV : Hid (numW l j = numW l j) := rfl
      generalize hq : numW l j = r at hv hp2 HV ⊢
      obtain ⟨v, k⟩ := r
      have HQ := Lib.hid hq
      clear hq HV
      by_cases h0 : k = 0
      · have e0 : ((k : Int) == 0) = true := by rw [beq_iff_eq]; omega
        have R : Hid (takeWrB l = (⟨0, 0, 0, ⟨#[]⟩, 0, 0, ⟨#[]⟩, 0, 0, ⟨#[]⟩⟩, 0)) := takeWr_no fun h => by
          have := h.1 j hlt
          rw [HQ.out] at this
          exact this h0
        have hbw : w.heap.size ≤ b := Nat.le_of_eq hb
        obtain ⟨c0, c1, c2, c3, c4, c5, c6, c7, c8, c9, c10⟩ := blk_c10 hK1
        obtain ⟨f0, f1, f2, f3, f4, f5, f6, f7, f8, f9⟩ := blk_f10 hK1
        clear h0 hb hK1 hL1 hp2
        go_wp2_with fail
        exact bodyPost_ret (v := .tuple #[.agg zeroW, .int .i64 0]) (by simp [results, Tryz.results67, go_sem, c0, c1, c2, c3, c4, c5, c6, c7, c8, c9]) rfl (by rw [R.out]; exact ⟨rfl, below10 hW1 hbw _ _ _ _ _ _ _ _ _ _⟩)
      · have e0 : ((k : Int) == 0) = false := by rw [beq_eq_false_iff_ne]; omega
        have hc1 := hL1.cell j
        have hf1 := hL1.free j
        have HA2 : Hid (∀ m, m < j + 1 → (numW l m).2 ≠ 0) := fun m hm => by
          by_cases e : m = j
          · rw [e, HQ.out]; exact h0
          · exact hA.out m (by omega)
        have hbw : w.heap.size ≤ b := Nat.le_of_eq hb
        go_wp2_with fail
        go_roundw
        case rel => exact ⟨j + 1, by omega, by go_num, by rw [hp2]; go_num, HA2, hK1.other (by omega) _ _, by rw [← rowW_set l hlt HQ.out]; exact hL1.set j _, hW1.setCell (p := ⟨b + 1, j, none⟩) (by show _ ≤ b + 1; omega) _⟩
        case measure => simp [intOf]; omega
    · have hj3 : j = 3 := by omega
      subst hj3
      have hq : ¬ (3 : Int) < 3 := by omega
      have hp := posW_le l 3
      have HT : Hid (∀ W A' c', RdB B W A' (l.drop (posW l 3)) → n - posW l 3 ≤ c' → Calls Tryz.prog 64 #[.slice A' (n - posW l 3) c', .int .u64 (20 : Nat)] W fun e w' => (∃ s : ByteArray, e = .returned (.tuple #[.string s, .int .i64 ((textW l).2 : Nat)]) ∧ s.data.toList = (textW l).1) ∧ Drn W w') :=
        fun W A' c' h h2 => refTakeText_any A' _ c' _ 20 W (by rw [List.length_drop, HN.out]) h (by omega) h2 (by omega)
      have hr0 := hr.keep hW hB
      have hrd := hr0.cut (p := posW l 3) (c := c) (by omega)
      have hs := fun W => run_cut W A n c (posW l 3) (by omega)
      generalize hp3 : posW l 3 = p at hp hrd hs HT ⊢
      have p0 : (0 : Int) ≤ (p : Int) := by omega
      have p1 : (p : Int) ≤ (n : Int) := by omega
      have p2 : (p : Int) ≤ (c : Int) := by omega
      clear hr0
      have hk := takeText_le (l.drop p) 20
      have HTW : Hid (textW l = takeTextB (l.drop p) 20) := by show _ = _; unfold textW; rw [hp3]
      rw [← HTW.out, List.length_drop, HN.out] at hk
      go_wp2_with fail
      refine (HT.out _ _ _ hrd (by omega)).mono ?_
      rintro e w1 ⟨⟨s1, rfl, hs1⟩, hD⟩
      have hW1 := hW.trans (hD.below _)
      have hK1 := hK.keep (hD.below _)
      have hL1 := hL.keep (hD.below _)
      clear hK hL hW hD hrd hs HT
      have HV1 : Hid (∀ W A' c', RdB B W A' (l.drop (p + (textW l).2)) → B ≤ W.heap.size → n - (p + (textW l).2) ≤ c' → Calls Tryz.prog 65 #[.slice A' (n - (p + (textW l).2)) c'] W fun e w' => TakeVP (val1W l) W e w') :=
        fun W A' c' h h2 h3 => by
          have := refTakeValue_any A' _ c' _ W (by rw [List.length_drop, HN.out]) h h2 (by omega) h3
          unfold val1W
          rw [hp3]
          exact this
      have hm := takeVal_le (l.drop (p + (textW l).2))
      have HVW : Hid (val1W l = takeValB (l.drop (p + (textW l).2))) := by show _ = _; unfold val1W; rw [hp3]
      rw [← HVW.out, List.length_drop, HN.out] at hm
      generalize hq1 : textW l = r1 at hs1 hk HV1 hm ⊢
      obtain ⟨tl, k⟩ := r1
      simp only at hk hm hs1 HV1
      have HQ1 := Lib.hid hq1
      clear hq1 HTW HVW
      have k0 : (0 : Int) ≤ (k : Int) := by omega
      have k1 : (p : Int) + (k : Int) ≤ (n : Int) := by omega
      have hs2 := fun W => run_cutI W A n c (p + k) ((p : Int) + (k : Int)) (by omega) (by omega)
      have hr1 := (hr.keep hW1 hB).cut (p := p + k) (c := c) (by omega)
      go_wp2_with fail
      refine (HV1.out _ _ _ hr1 (Nat.le_trans hB hW1.size) (by omega)).mono ?_
      rintro e w2 ⟨⟨s2, rfl, hs2d⟩, hb2⟩
      have hW2 := bt hW1 hb2
      have hK2 := hK1.keep hb2
      have hL2 := hL1.keep hb2
      clear hK1 hL1 hW1 hb2 hr1 hs2 HV1
      have HV2 : Hid (∀ W A' c', RdB B W A' (l.drop (p + k + (val1W l).2)) → B ≤ W.heap.size → n - (p + k + (val1W l).2) ≤ c' → Calls Tryz.prog 65 #[.slice A' (n - (p + k + (val1W l).2)) c'] W fun e w' => TakeVP (val2W l) W e w') :=
        fun W A' c' h h2 h3 => by
          have := refTakeValue_any A' _ c' _ W (by rw [List.length_drop, HN.out]) h h2 (by omega) h3
          unfold val2W
          rw [hp3, HQ1.out]
          exact this
      have ho := takeVal_le (l.drop (p + k + (val1W l).2))
      have HVW2 : Hid (val2W l = takeValB (l.drop (p + k + (val1W l).2))) := by show _ = _; unfold val2W; rw [hp3, HQ1.out]
      rw [← HVW2.out, List.length_drop, HN.out] at ho
      generalize hq2 : val1W l = r2 at hs2d hm HV2 ho ⊢
      obtain ⟨⟨ka, na, sl⟩, m⟩ := r2
      simp only at hm hs2d HV2 ho
      have HQ2 := Lib.hid hq2
      clear hq2 HVW2
      have m0 : (0 : Int) ≤ (m : Int) := by omega
      have m1 : (p : Int) + (k : Int) + (m : Int) ≤ (n : Int) := by omega
      have hs3 := fun W => run_cutI W A n c (p + k + m) ((p : Int) + (k : Int) + (m : Int)) (by omega) (by omega)
      go_wp2_with fail
      have hX := blk_new w2 #[.int .i64 ka, .int .i64 na, .string s2] 59
      have hWX := ba hW2 (.cells #[.int .i64 ka, .int .i64 na, .string s2] 59)
      have hKX := hK2.alloc (.cells #[.int .i64 ka, .int .i64 na, .string s2] 59)
      have hLX := hL2.alloc (.cells #[.int .i64 ka, .int .i64 na, .string s2] 59)
      generalize w2.alloc (.cells #[.int .i64 ka, .int .i64 na, .string s2] 59) = WX at hX hWX hKX hLX ⊢
      clear hW2 hK2 hL2
      generalize w2.heap.size = bx at hX ⊢
      have hr2 := (hr.keep hWX hB).cut (p := p + k + m) (c := c) (by omega)
      refine (HV2.out _ _ _ hr2 (Nat.le_trans hB hWX.size) (by omega)).mono ?_
      rintro e w3 ⟨⟨s3, rfl, hs3d⟩, hb3⟩
      have hW3 := bt hWX hb3
      have hK3 := hKX.keep hb3
      have hL3 := hLX.keep hb3
      have hX3 := hX.keep hb3
      clear hKX hLX hWX hX hb3 hr2 hs3 HV2
      generalize hq3 : val2W l = r3 at hs3d ho ⊢
      obtain ⟨⟨kb, nb, sl2⟩, o⟩ := r3
      simp only at ho hs3d
      have HQ3 := Lib.hid hq3
      clear hq3
      obtain ⟨e0, e1, e2, e3⟩ := hL3.c3
      rw [show cellW l 3 0 = .int .i64 ((numW l 0).1 : Nat) from rfl] at e0
      rw [show cellW l 3 1 = .int .i64 ((numW l 1).1 : Nat) from rfl] at e1
      rw [show cellW l 3 2 = .int .i64 ((numW l 2).1 : Nat) from rfl] at e2
      obtain ⟨x0, x1, x2, x3⟩ := hX3.c3
      have hbw : w.heap.size ≤ b := Nat.le_of_eq hb
      have z1 : s1.size ≤ maxLen := by
        have h := takeText_sz (l.drop (posW l 3)) 20
        have h2 := HQ1.out
        unfold textW at h2
        rw [h2] at h
        simp only [List.length_drop] at h
        rw [← hs1] at h
        have h3 : s1.data.toList.length = s1.size := Array.length_toList
        have := HN.out
        unfold maxLen
        omega
      have z2 : s2.size ≤ maxLen := by
        have h := takeVal_sz (l.drop (posW l 3 + (textW l).2))
        have h2 := HQ2.out
        unfold val1W at h2
        rw [h2] at h
        simp only [List.length_drop] at h
        rw [← hs2d] at h
        have h3 : s2.data.toList.length = s2.size := Array.length_toList
        have := HN.out
        unfold maxLen
        omega
      have z3 : s3.size ≤ maxLen := by
        have h := takeVal_sz (l.drop (posW l 3 + (textW l).2 + (val1W l).2))
        have h2 := HQ3.out
        unfold val2W at h2
        rw [h2] at h
        simp only [List.length_drop] at h
        rw [← hs3d] at h
        have h3 : s3.data.toList.length = s3.size := Array.length_toList
        have := HN.out
        unfold maxLen
        omega
      have hG : gotW l = ⟨((numW l 0).1 : Nat), ((numW l 1).1 : Nat), ((numW l 2).1 : Nat), s1, ka, na, s2, kb, nb, s3⟩ := by
        unfold gotW
        rw [HQ1.out, HQ2.out, HQ3.out, ba_of hs1, ba_of hs2d, ba_of hs3d]
      have HG := Lib.hid hG
      have m2 : (p : Int) + (k : Int) + (m : Int) + (o : Int) ≤ (n : Int) := by omega
      have o0 : (0 : Int) ≤ (o : Int) := by omega
      clear hlt hj hq p2 hm hk ho m0 k0 p0 p1 k1 hG hs1 hs2d hs3d
      go_upto_region 18 with fail
      have hWY := ba hW3 (.cells #[.int .i64 kb, .int .i64 nb, .string s3] 59)
      have hKY := hK3.alloc (.cells #[.int .i64 kb, .int .i64 nb, .string s3] 59)
      have hz : (w3.alloc (.cells #[.int .i64 kb, .int .i64 nb, .string s3] 59)).heap.size = w3.heap.size + 1 := by simp
      clear hL3 hX3 e0 e1 e2 e3 x0 x1 x2 x3 hK3 hW3
      generalize w3.alloc (.cells #[.int .i64 kb, .int .i64 nb, .string s3] 59) = WY at hWY hKY hz ⊢
      rw [← hz]
      clear hz
      have hZ := blk_new WY (wrI ((numW l 0).1 : Nat) ((numW l 1).1 : Nat) ((numW l 2).1 : Nat) s1 ka na s2 kb nb s3) 63
      have hWZ := ba hWY (.cells (wrI ((numW l 0).1 : Nat) ((numW l 1).1 : Nat) ((numW l 2).1 : Nat) s1 ka na s2 kb nb s3) 63)
      have hKZ := hKY.alloc (.cells (wrI ((numW l 0).1 : Nat) ((numW l 1).1 : Nat) ((numW l 2).1 : Nat) s1 ka na s2 kb nb s3) 63)
      have hne : b ≠ WY.heap.size := fun e => by
        have := hKY.lt
        omega
      clear hWY hKY
      generalize WY.alloc (.cells (wrI ((numW l 0).1 : Nat) ((numW l 1).1 : Nat) ((numW l 2).1 : Nat) s1 ka na s2 kb nb s3) 63) = WZ at hZ hWZ hKZ ⊢
      generalize WY.heap.size = bz at hZ hne ⊢
      by_cases hk0 : k = 0
      · have e : ((k : Int) == 0) = true := by rw [beq_iff_eq]; omega
        have R : Hid (takeWrB l = (⟨0, 0, 0, ⟨#[]⟩, 0, 0, ⟨#[]⟩, 0, 0, ⟨#[]⟩⟩, 0)) := takeWr_no fun h => h.2.1 (by rw [HQ1.out]; exact hk0)
        obtain ⟨c0, c1, c2, c3, c4, c5, c6, c7, c8, c9, c10⟩ := blk_c10 hKZ
        obtain ⟨f0, f1, f2, f3, f4, f5, f6, f7, f8, f9⟩ := blk_f10 hKZ
        clear hb hKZ hZ
        go_wp2_with fail
        exact bodyPost_ret (v := .tuple #[.agg zeroW, .int .i64 0]) (by simp [results, Tryz.results67, go_sem, c0, c1, c2, c3, c4, c5, c6, c7, c8, c9]) rfl (by rw [R.out]; exact ⟨rfl, below10 hWZ hbw _ _ _ _ _ _ _ _ _ _⟩)
      · by_cases hm0 : m = 0
        · have e : ((m : Int) == 0) = true := by rw [beq_iff_eq]; omega
          have q1 : ((k : Int) == 0) = false := by rw [beq_eq_false_iff_ne]; omega
          have R : Hid (takeWrB l = (⟨0, 0, 0, ⟨#[]⟩, 0, 0, ⟨#[]⟩, 0, 0, ⟨#[]⟩⟩, 0)) := takeWr_no fun h => h.2.2.1 (by rw [HQ2.out]; exact hm0)
          obtain ⟨c0, c1, c2, c3, c4, c5, c6, c7, c8, c9, c10⟩ := blk_c10 hKZ
          obtain ⟨f0, f1, f2, f3, f4, f5, f6, f7, f8, f9⟩ := blk_f10 hKZ
          clear hb hKZ hZ
          go_wp2_with fail
          exact bodyPost_ret (v := .tuple #[.agg zeroW, .int .i64 0]) (by simp [results, Tryz.results67, go_sem, c0, c1, c2, c3, c4, c5, c6, c7, c8, c9]) rfl (by rw [R.out]; exact ⟨rfl, below10 hWZ hbw _ _ _ _ _ _ _ _ _ _⟩)
        · by_cases ho0 : o = 0
          · have e : ((o : Int) == 0) = true := by rw [beq_iff_eq]; omega
            have q1 : ((k : Int) == 0) = false := by rw [beq_eq_false_iff_ne]; omega
            have q2 : ((m : Int) == 0) = false := by rw [beq_eq_false_iff_ne]; omega
            have R : Hid (takeWrB l = (⟨0, 0, 0, ⟨#[]⟩, 0, 0, ⟨#[]⟩, 0, 0, ⟨#[]⟩⟩, 0)) := takeWr_no fun h => h.2.2.2.1 (by rw [HQ3.out]; exact ho0)
            obtain ⟨c0, c1, c2, c3, c4, c5, c6, c7, c8, c9, c10⟩ := blk_c10 hKZ
            obtain ⟨f0, f1, f2, f3, f4, f5, f6, f7, f8, f9⟩ := blk_f10 hKZ
            clear hb hKZ hZ
            go_wp2_with fail
            exact bodyPost_ret (v := .tuple #[.agg zeroW, .int .i64 0]) (by simp [results, Tryz.results67, go_sem, c0, c1, c2, c3, c4, c5, c6, c7, c8, c9]) rfl (by rw [R.out]; exact ⟨rfl, below10 hWZ hbw _ _ _ _ _ _ _ _ _ _⟩)
          · have q1 : ((k : Int) == 0) = false := by rw [beq_eq_false_iff_ne]; omega
            have q2 : ((m : Int) == 0) = false := by rw [beq_eq_false_iff_ne]; omega
            have q3 : ((o : Int) == 0) = false := by rw [beq_eq_false_iff_ne]; omega
            obtain ⟨d0, d1, d2, d3, d4, d5, d6, d7, d8, d9, d10⟩ := blk_c10 hZ
            go_wp2_with fail
            clear d0 d1 d2 d3 d4 d5 d6 d7 d8 d9 d10
            refine (refWrGood_any _ _ _ _ _ _ _ _ _ _ _ z1 z2 z3).mono ?_
            rintro e w4 ⟨rfl, hb4⟩
            replace hWZ := bt hWZ hb4
            replace hKZ := hKZ.keep hb4
            replace hZ := hZ.keep hb4
            clear hb4
            obtain ⟨c0, c1, c2, c3, c4, c5, c6, c7, c8, c9, c10⟩ := blk_c10 hKZ
            obtain ⟨f0, f1, f2, f3, f4, f5, f6, f7, f8, f9⟩ := blk_f10 hKZ
            obtain ⟨d0, d1, d2, d3, d4, d5, d6, d7, d8, d9, d10⟩ := blk_c10 hZ
            clear hKZ hZ
            cases hg : wrGoodB ((numW l 0).1 : Nat) ((numW l 1).1 : Nat) ((numW l 2).1 : Nat) s1 ka na s2 kb nb s3
            · have R : Hid (takeWrB l = (⟨0, 0, 0, ⟨#[]⟩, 0, 0, ⟨#[]⟩, 0, 0, ⟨#[]⟩⟩, 0)) := takeWr_no fun h => by
                have h := h.2.2.2.2
                rw [HG.out] at h
                unfold Wr.good at h
                rw [hg] at h
                cases h
              clear hg hb
              go_wp2_with fail
              exact bodyPost_ret (v := .tuple #[.agg zeroW, .int .i64 0]) (by simp [results, Tryz.results67, go_sem, c0, c1, c2, c3, c4, c5, c6, c7, c8, c9]) rfl (by rw [R.out]; exact ⟨rfl, below10 hWZ hbw _ _ _ _ _ _ _ _ _ _⟩)
            · have R : Hid (takeWrB l = (⟨((numW l 0).1 : Nat), ((numW l 1).1 : Nat), ((numW l 2).1 : Nat), s1, ka, na, s2, kb, nb, s3⟩, p + k + m + o)) := by
                show _ = _
                rw [takeWr_yes, HG.out, hp3, HQ1.out, HQ2.out, HQ3.out]
                refine ⟨hA.out, by rw [HQ1.out]; exact hk0, by rw [HQ2.out]; exact hm0, by rw [HQ3.out]; exact ho0, ?_⟩
                rw [HG.out]
                exact hg
              clear hg hb
              go_wp2_with fail
              exact bodyPost_ret (v := .tuple #[.agg (wrI ((numW l 0).1 : Nat) ((numW l 1).1 : Nat) ((numW l 2).1 : Nat) s1 ka na s2 kb nb s3), .int .i64 ((p + k + m + o : Nat) : Int)]) (by simp [results, Tryz.results67, go_sem, c0, c1, c2, c3, c4, c5, c6, c7, c8, c9]) rfl (by rw [R.out]; exact ⟨rfl, below10 hWZ hbw _ _ _ _ _ _ _ _ _ _⟩)
end Go.Proofs.YtnlnbgcmmlpniaaGreatDoor

namespace Go.Proofs.YtnlnbgcmmlpniaaGreatDoor
open Go.RowKit

/-- The cells of writes. -/
abbrev wrV (l : List Wr) : List Value := l.flatMap fun x => x.cells.toList
theorem wrV_len (l : List Wr) : (wrV l).length = l.length * 10 := by
  induction l with
  | nil => rfl
  | cons x t ih =>
    show (x.cells.toList ++ wrV t).length = _
    rw [List.length_append, ih]
    show 10 + t.length * 10 = (t.length + 1) * 10
    omega
theorem wrV_get : ∀ (l : List Wr) (k j : Nat) (x : Wr) (v : Value), l[k]? = some x → x.cells[j]? = some v → (wrV l)[k * 10 + j]? = some v
  | [], k, j, x, v, h, _ => by simp at h
  | y :: t, 0, j, x, v, h, hv => by
    have e : y = x := by simpa using h
    subst e
    have hj : j < 10 := by
      have := (Array.getElem?_eq_some_iff.1 hv).1
      simpa using this
    show (y.cells.toList ++ wrV t)[0 * 10 + j]? = _
    rw [List.getElem?_append_left (by show _ < 10; omega), Nat.zero_mul, Nat.zero_add, Array.getElem?_toList]
    exact hv
  | y :: t, k + 1, j, x, v, h, hv => by
    have h2 : t[k]? = some x := by simpa using h
    have ih := wrV_get t k j x v h2 hv
    show (y.cells.toList ++ wrV t)[(k + 1) * 10 + j]? = _
    rw [List.getElem?_append_right (by show 10 ≤ _; omega)]
    show (wrV t)[(k + 1) * 10 + j - 10]? = _
    rw [show (k + 1) * 10 + j - 10 = k * 10 + j by omega]
    exact ih
/-- A row of writes that the call owns, in blocks from base on. -/
def OwnW (base : Nat) (W : World) (A : Option Addr) (n c : Nat) (l : List Wr) : Prop := W.ownsRow base 63 10 (.slice A n c) n (wrV l)
theorem OwnW.nil (base : Nat) (W : World) : OwnW base W none 0 0 [] := World.ownsRow_nil W base 63 10
theorem OwnW.len {base : Nat} {W : World} {A : Option Addr} {n c : Nat} {l : List Wr} (h : OwnW base W A n c l) : l.length = n := by
  have h1 := h.1
  have h2 := wrV_len l
  omega
theorem OwnW.rd {base : Nat} {W : World} {A : Option Addr} {n c : Nat} {l : List Wr} (h : OwnW base W A n c l) : RdW W.heap.size W A l := by
  intro k x hx
  have hk := (List.getElem?_eq_some_iff.1 hx).1
  have hl := h.len
  obtain ⟨g, cap, hv, _, hlt⟩ := World.ownsRow.form h (by omega)
  injection hv with hv
  subst hv
  exact ⟨_, rfl, hlt, fun j v hj => h.cells (g := g) rfl _ _ (wrV_get l k j x v hx hj)⟩
theorem OwnW.keep {base : Nat} {W W' : World} {A : Option Addr} {n c : Nat} {l : List Wr} (h : OwnW base W A n c l) (hb : Below W.heap.size W W') : OwnW base W' A n c l :=
  World.ownsRow.kept h (row := none) ⟨hb.os, hb.tape, hb.output, hb.size, fun k hk _ => hb.block k hk⟩ (by cases A <;> simp [Value.ownBlock])
theorem OwnW.less {base b2 : Nat} {W : World} {A : Option Addr} {n c : Nat} {l : List Wr} (h : OwnW base W A n c l) (hb : b2 ≤ base) : OwnW b2 W A n c l := by
  refine ⟨h.1, ?_⟩
  rcases h.2 with h | ⟨g, cap, cur, h1, h2, h3⟩
  · exact .inl h
  · exact .inr ⟨g, cap, cur, h1, by omega, h3⟩
theorem wr_info : (Tryz.prog.info? 63).map (fun i => (i.zero, i.size, i.bytes)) = some (some (.agg (wrI 0 0 0 ⟨#[]⟩ 0 0 ⟨#[]⟩ 0 0 ⟨#[]⟩)), 10, 104) := by kernel_rfl
theorem wr_one (x : Wr) : ∀ u ∈ x.cells.toList, u.oneCell' = true := by
  intro u hu
  simp only [List.mem_cons, List.not_mem_nil, or_false] at hu
  rcases hu with rfl | rfl | rfl | rfl | rfl | rfl | rfl | rfl | rfl | rfl <;> rfl
/-- Append of one write onto a row of the call's own. -/
theorem run_apW {P : Program} (w : World) {t t' e' ty : TypeId} {i : TypeInfo} (ht : P.underlying t = some (.slice 63)) (ht' : P.underlying t' = some (.slice e')) (hi : P.info? 63 = some i) (hz : i.zero = some (.agg (wrI 0 0 0 ⟨#[]⟩ 0 0 ⟨#[]⟩ 0 0 ⟨#[]⟩))) (hs : i.size = 10) (hy : i.bytes = 104)
    {base : Nat} {A : Option Addr} {ad : Addr} {n c d : Nat} {l : List Wr} {x : Wr} (hown : OwnW base w A n c l) (hr : ∀ j v, x.cells[j]? = some v → w.cell? (ad.add j) = some v) (hsz : n ≤ 1000000) (hbase : base ≤ w.heap.size) :
    ∃ A' c' w', (Builtin.append_ #[t, t'] ty #[.slice A n c, .slice (some ad) 1 d]).run P w = .ok (.slice A' (n + 1) c') w' ∧ OwnW base w' A' (n + 1) c' (l ++ [x]) ∧ Below base w w' := by
  obtain ⟨v', w', hrun, h2, h3, _, _⟩ := run_append_own_at (P := P) w base t ty 63 i (.agg (wrI 0 0 0 ⟨#[]⟩ 0 0 ⟨#[]⟩ 0 0 ⟨#[]⟩)) 10 104 ht hi hz hs hy rfl (by omega) (.slice A n c) n (wrV l) hown ad 1 d x.cells.toList rfl (fun j u hu => hr j u (by rw [← Array.getElem?_toList]; exact hu)) (wr_one x)
    (by unfold maxLen; omega) (by omega) hbase
  have hb : Below base w w' := (Below.refl base w).grown h3 hbase (fun k hk => (World.ownsRow.lt hown k hk).1)
  have hv : ∃ A' c', v' = .slice A' (n + 1) c' := by
    rcases h2.2 with ⟨_, e2⟩ | ⟨g, cap, cur, e1, _⟩
    · omega
    · exact ⟨_, _, e1⟩
  obtain ⟨A', c', rfl⟩ := hv
  refine ⟨A', c', w', by rw [run_append_tt w ht ht']; exact hrun, ?_, hb⟩
  unfold OwnW
  rw [show wrV (l ++ [x]) = wrV l ++ x.cells.toList by simp [wrV]]
  exact h2
section
variable {P : Program} {w : World} {t t' e' : TypeId} {i : TypeInfo} {base : Nat} {A : Option Addr} {ad : Addr} {n c d : Nat} {l : List Wr} {xx : Wr} {o : Oper} {a : Act} {Q : Exit → Act → World → Prop} {ops : Array Oper}
/-- .. in a plain region. -/
theorem wpList_apW {rest : List Oper} (hgd : o.guard = none) (s x : Operand) (ho : o.op = .call { callee := .builtin .append, args := #[s, x], argTypes := #[t, t'] })
    (ht : P.underlying t = some (.slice 63)) (ht' : P.underlying t' = some (.slice e')) (hi : P.info? 63 = some i) (hz : i.zero = some (.agg (wrI 0 0 0 ⟨#[]⟩ 0 0 ⟨#[]⟩ 0 0 ⟨#[]⟩))) (hs : i.size = 10) (hy : i.bytes = 104)
    (h1 : a.eval s = .slice A n c) (h2 : a.eval x = .slice (some ad) 1 d) (hown : OwnW base w A n c l) (hr : ∀ j v, xx.cells[j]? = some v → w.cell? (ad.add j) = some v) (hsz : n ≤ 1000000) (hbase : base ≤ w.heap.size)
    (h : ∀ A' c' w', OwnW base w' A' (n + 1) c' (l ++ [xx]) → Below base w w' → wpList P ops Q rest (a.put o.dst (.slice A' (n + 1) c')) w') : wpList P ops Q (o :: rest) a w := by
  refine wpList_plain hgd fun _ hK => ?_
  obtain ⟨A', c', w', hrun, k1, k2⟩ := run_apW (P := P) (ty := o.type) (d := d) w ht ht' hi hz hs hy hown hr hsz hbase
  unfold Oper.wp execOp
  simp only [ho, resolve, invoke, builtin, Sem.run_bind, Sem.run_pure, Result.andThen_ok, List.map_toArray, List.map_cons, List.map_nil, h1, h2, hrun]
  exact hK _ _ (h A' c' w' k1 k2)
end
end Go.Proofs.YtnlnbgcmmlpniaaGreatDoor

namespace Go.Proofs.YtnlnbgcmmlpniaaGreatDoor
open Go.RowKit
attribute [local go_sem ↓] Go.wp_at_zero Go.wp_at_succ

/-- Where the first j writes end; are they all there? -/
noncomputable def posWs (l : List UInt8) (most : Nat) : Nat → Nat
  | 0 => (takeNum l most).2
  | j + 1 => posWs l most j + (takeWrB (l.drop (posWs l most j))).2
noncomputable def nthWs (l : List UInt8) (most j : Nat) : Wr × Nat := takeWrB (l.drop (posWs l most j))
noncomputable def listWs (l : List UInt8) (most : Nat) : Nat → List Wr
  | 0 => []
  | j + 1 => listWs l most j ++ [(nthWs l most j).1]
def stdWs (l : List UInt8) (most : Nat) : Prop := (takeNum l most).2 ≠ 0 ∧ ∀ j, j < (takeNum l most).1 → (nthWs l most j).2 ≠ 0
open Classical in
/-- Writes, taken; how many bytes; 0: they don't stand there. -/
noncomputable def takeWrsB (l : List UInt8) (most : Nat) : List Wr × Nat :=
  if stdWs l most then (listWs l most (takeNum l most).1, posWs l most (takeNum l most).1) else ([], 0)
theorem takeWrs_no {l : List UInt8} {most : Nat} (h : ¬ stdWs l most) : takeWrsB l most = ([], 0) := if_neg h
theorem takeWrs_yes {l : List UInt8} {most : Nat} (h : stdWs l most) : takeWrsB l most = (listWs l most (takeNum l most).1, posWs l most (takeNum l most).1) := if_pos h
theorem listWs_len (l : List UInt8) (most : Nat) : ∀ j, (listWs l most j).length = j
  | 0 => rfl
  | j + 1 => by
    show (listWs l most j ++ [_]).length = _
    rw [List.length_append, listWs_len l most j]
    rfl
theorem takeWr_le (l : List UInt8) : (takeWrB l).2 ≤ l.length := by
  by_cases h : stdW l
  · rw [takeWr_yes h]
    have h1 := posW_le l 3
    have h2 := takeText_le (l.drop (posW l 3)) 20
    have h3 := takeVal_le (l.drop (posW l 3 + (textW l).2))
    have h4 := takeVal_le (l.drop (posW l 3 + (textW l).2 + (val1W l).2))
    rw [List.length_drop] at h2 h3 h4
    have e2 : (textW l).2 = (takeTextB (l.drop (posW l 3)) 20).2 := rfl
    have e3 : (val1W l).2 = (takeValB (l.drop (posW l 3 + (textW l).2))).2 := rfl
    have e4 : (val2W l).2 = (takeValB (l.drop (posW l 3 + (textW l).2 + (val1W l).2))).2 := rfl
    show posW l 3 + (textW l).2 + (val1W l).2 + (val2W l).2 ≤ _
    omega
  · rw [takeWr_no h]
    exact Nat.zero_le _
theorem posWs_le (l : List UInt8) (most : Nat) : ∀ j, posWs l most j ≤ l.length
  | 0 => (takeNum_lt l most).2.2.2
  | j + 1 => by
    have h := posWs_le l most j
    have k := takeWr_le (l.drop (posWs l most j))
    rw [List.length_drop] at k
    show posWs l most j + (takeWrB (l.drop (posWs l most j))).2 ≤ _
    omega
theorem posWs_succ (l : List UInt8) (most j : Nat) : posWs l most (j + 1) = posWs l most j + (nthWs l most j).2 := rfl
theorem add_zero_at (g j : Nat) : (⟨g, 0, none⟩ : Addr).add j = ⟨g, j, none⟩ := by
  unfold Addr.add
  by_cases h : j = 0
  · rw [if_pos h, h]
  · rw [if_neg h]
    simp
theorem new_cells (W : World) (x : Wr) (t : TypeId) : ∀ j v, x.cells[j]? = some v → (W.alloc (.cells x.cells t)).cell? ((⟨W.heap.size, 0, none⟩ : Addr).add j) = some v := by
  intro j v hv
  rw [add_zero_at, (blk_new W x.cells t).cell j]
  exact hv
/-- What TakeWrites answers: a slice that the call owns, nil of none. -/
def TakeWsP (r : List Wr × Nat) (w : World) (e : Ending) (w' : World) : Prop :=
  (∃ (A : Option Addr) (n c : Nat), e = .returned (.tuple #[.slice A n c, .int .i64 (r.2 : Nat)]) ∧ OwnW w.heap.size w' A n c r.1) ∧ Below w.heap.size w w'

end Go.Proofs.YtnlnbgcmmlpniaaGreatDoor
