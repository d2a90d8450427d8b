/-
  WHAT IS PROVED: deed.Read of any text of at most 1000 bytes answers as the plain function readD does, where the library's variables hold what the program's text lays.
-/
import Derived.Test.YtmilcgikncecnaaDoorParse2
namespace Go.Proofs.YtmilcgikncecnaaDoor
open Go.RowKit

def PvOk (n : Nat) (p : PV) : Prop := p.2.1.length ≤ n ∧ (GoodW p.2.2.1.1 p.2.2.1.2.1 p.2.2.1.2.2.1 ∧ -9223372036854775808 ≤ p.2.2.1.2.1 ∧ p.2.2.1.2.1 ≤ 9223372036854775807) ∧ (GoodW p.2.2.2.1 p.2.2.2.2.1 p.2.2.2.2.2.1 ∧ -9223372036854775808 ≤ p.2.2.2.2.1 ∧ p.2.2.2.2.1 ≤ 9223372036854775807)
theorem nilV_ok : GoodW nilV.1 nilV.2.1 nilV.2.2.1 ∧ -9223372036854775808 ≤ nilV.2.1 ∧ nilV.2.1 ≤ 9223372036854775807 := ⟨Or.inl ⟨rfl, rfl, rfl⟩, by decide, by decide⟩
theorem readV_ok {l : List UInt8} (h : (readV l).2.2.2 = 0) : GoodW (readV l).1 (readV l).2.1 (readV l).2.2.1 ∧ -9223372036854775808 ≤ (readV l).2.1 ∧ (readV l).2.1 ≤ 9223372036854775807 := by
  obtain ⟨⟨k, n, t, e⟩, hr⟩ : ∃ r, readV l = r := ⟨_, rfl⟩
  rw [hr] at h ⊢
  simp only at h
  subst h
  exact readV_good hr
theorem pv_ok {l : List UInt8} {p : PV} (h : parseP l = some p) : PvOk l.length p := by
  have he := pieces_each 4 l
  unfold parseP at h
  generalize pieces 4 l = ps at he h
  match ps, he, h with
  | [], _, h => simp at h
  | [_], _, h => simp at h
  | [p0, p1], he, h =>
    simp only at h
    split at h
    · simp only [Option.some.injEq] at h
      subst h
      exact ⟨he p1 (by simp), nilV_ok, nilV_ok⟩
    · simp at h
  | [p0, p1, p2], he, h =>
    simp only at h
    split at h
    · rename_i hc
      simp only [Option.some.injEq] at h
      subst h
      exact ⟨he p1 (by simp), readV_ok hc.2, nilV_ok⟩
    · simp at h
  | [p0, p1, p2, p3], he, h =>
    simp only at h
    split at h
    · rename_i hc
      simp only [Option.some.injEq] at h
      subst h
      exact ⟨he p1 (by simp), readV_ok hc.2.1, readV_ok hc.2.2⟩
    · simp at h
  | _ :: _ :: _ :: _ :: _ :: _, _, h => simp at h
theorem goodW_len {k n : Int} {t : List UInt8} (g : GoodW k n t) : t.length ≤ 40 := by
  rcases g with ⟨_, _, rfl⟩ | ⟨_, rfl⟩ | ⟨_, _, h⟩
  · simp
  · simp
  · exact h

set_option maxRecDepth 100000 in
set_option maxHeartbeats 8000000 in
theorem readD_no (s : ByteArray) (w : World) (hL : LaidD w)
    (Hp : Hid (∀ W : World, LaidD W → Calls Tryd.prog 32 #[.string s] W fun e W' => e = .returned (noT false) ∧ Below W.heap.size W W')) :
    Calls Tryd.prog 18 #[.string s] w fun e w' => e = .returned (opE 0 ⟨#[]⟩ 0 0 ⟨#[]⟩ 0 0 ⟨#[]⟩ 2) ∧ Below w.heap.size w w' := by
  have HL := Lib.hid hL
  clear hL
  go_enter Tryd.func18, Tryd.ntmps18
  go_wp2_with fail
  have hB := b0 w (.cells (opC 0 ⟨#[]⟩ 0 0 ⟨#[]⟩ 0 0 ⟨#[]⟩) 28)
  have HR := Lib.hid (blk_new w (opC 0 ⟨#[]⟩ 0 0 ⟨#[]⟩ 0 0 ⟨#[]⟩) 28)
  generalize w.alloc (.cells (opC 0 ⟨#[]⟩ 0 0 ⟨#[]⟩ 0 0 ⟨#[]⟩) 28) = W at HR hB ⊢
  refine (Hp.out _ (HL.out.keep hB)).mono ?_
  rintro e w1 ⟨rfl, hb1⟩
  replace hB := bt hB hb1
  replace HR := Lib.hid (HR.out.keep hb1)
  obtain ⟨q0, q1, q2, q3, q4, q5, q6, q7, q8⟩ := HR.out.c8
  obtain ⟨f0, f1, f2, f3, f4, f5, f6, f7⟩ := HR.out.f8
  have x2 : ¬ w.heap.size = w1.heap.size := by omega
  have x1 : ¬ w1.heap.size = w.heap.size := by omega
  go_wp2_with fail
  exact bodyPost_ret (v := opE 0 ⟨#[]⟩ 0 0 ⟨#[]⟩ 0 0 ⟨#[]⟩ 2) (by simp [results, Tryd.results18, go_sem, q0, q1, q2, q3, q4, q5, q6, q7, x2, World.cell?_alloc_old]) rfl ⟨rfl, ba (below8 hB (Nat.le_refl _) _ _ _ _ _ _ _ _) _⟩

set_option maxRecDepth 100000 in
set_option maxHeartbeats 8000000 in
theorem readD_op (s : ByteArray) (w : World) (hL : LaidD w) (K ka na kb nb : Int) (ky sa sb : ByteArray) (hk : ky.size ≤ maxLen) (ha : sa.size ≤ maxLen) (hb : sb.size ≤ maxLen)
    (Hp : Hid (∀ W : World, LaidD W → Calls Tryd.prog 32 #[.string s] W fun e W' => e = .returned (opT K ky ka na sa kb nb sb true) ∧ Below W.heap.size W W')) :
    Calls Tryd.prog 18 #[.string s] w fun e w' => e = .returned (if opB K ky ka na sa kb nb sb = true then opE K ky ka na sa kb nb sb 0 else opE 0 ⟨#[]⟩ 0 0 ⟨#[]⟩ 0 0 ⟨#[]⟩ 2) ∧ Below w.heap.size w w' := by
  have HL := Lib.hid hL
  have HG := Lib.hid (fun W : World => deedGood_any K ka na kb nb ky sa sb W hk ha hb)
  clear hL hk ha hb
  cases hg : opB K ky ka na sa kb nb sb
  · rw [hg] at HG
    rw [if_neg (by decide)]
    clear hg
    go_enter Tryd.func18, Tryd.ntmps18
    go_wp2_with fail
    have hB := b0 w (.cells (opC 0 ⟨#[]⟩ 0 0 ⟨#[]⟩ 0 0 ⟨#[]⟩) 28)
    have HR := Lib.hid (blk_new w (opC 0 ⟨#[]⟩ 0 0 ⟨#[]⟩ 0 0 ⟨#[]⟩) 28)
    generalize w.alloc (.cells (opC 0 ⟨#[]⟩ 0 0 ⟨#[]⟩ 0 0 ⟨#[]⟩) 28) = W at HR hB ⊢
    refine (Hp.out _ (HL.out.keep hB)).mono ?_
    rintro e w1 ⟨rfl, hb1⟩
    replace hB := bt hB hb1
    replace HR := Lib.hid (HR.out.keep hb1)
    go_wp2_with fail
    have HR2 := Lib.hid (HR.out.alloc (.cells (opC K ky ka na sa kb nb sb) 28))
    replace hB := ba hB (.cells (opC K ky ka na sa kb nb sb) 28)
    refine (HG.out _).mono ?_
    rintro e w2 ⟨rfl, hb2⟩
    replace hB := bt hB hb2
    obtain ⟨q0, q1, q2, q3, q4, q5, q6, q7, q8⟩ := (HR2.out.keep hb2).c8
    obtain ⟨f0, f1, f2, f3, f4, f5, f6, f7⟩ := (HR2.out.keep hb2).f8
    go_wp2_with fail
    exact bodyPost_ret (v := opE 0 ⟨#[]⟩ 0 0 ⟨#[]⟩ 0 0 ⟨#[]⟩ 2) (by simp [results, Tryd.results18, go_sem, q0, q1, q2, q3, q4, q5, q6, q7]) rfl ⟨rfl, below8 hB (Nat.le_refl _) _ _ _ _ _ _ _ _⟩
  · rw [hg] at HG
    rw [if_pos rfl]
    clear hg
    go_enter Tryd.func18, Tryd.ntmps18
    go_wp2_with fail
    have hB := b0 w (.cells (opC 0 ⟨#[]⟩ 0 0 ⟨#[]⟩ 0 0 ⟨#[]⟩) 28)
    have HR := Lib.hid (blk_new w (opC 0 ⟨#[]⟩ 0 0 ⟨#[]⟩ 0 0 ⟨#[]⟩) 28)
    generalize w.alloc (.cells (opC 0 ⟨#[]⟩ 0 0 ⟨#[]⟩ 0 0 ⟨#[]⟩) 28) = W at HR hB ⊢
    refine (Hp.out _ (HL.out.keep hB)).mono ?_
    rintro e w1 ⟨rfl, hb1⟩
    replace hB := bt hB hb1
    replace HR := Lib.hid (HR.out.keep hb1)
    go_wp2_with fail
    have HR2 := Lib.hid (HR.out.alloc (.cells (opC K ky ka na sa kb nb sb) 28))
    have HO := Lib.hid (blk_new w1 (opC K ky ka na sa kb nb sb) 28)
    replace hB := ba hB (.cells (opC K ky ka na sa kb nb sb) 28)
    have x2 : w.heap.size < w1.heap.size := HR.out.lt
    refine (HG.out _).mono ?_
    rintro e w2 ⟨rfl, hb2⟩
    replace hB := bt hB hb2
    obtain ⟨q0, q1, q2, q3, q4, q5, q6, q7, q8⟩ := (HR2.out.keep hb2).c8
    obtain ⟨f0, f1, f2, f3, f4, f5, f6, f7⟩ := (HR2.out.keep hb2).f8
    obtain ⟨p0, p1, p2, p3, p4, p5, p6, p7, p8⟩ := (HO.out.keep hb2).c8
    go_wp2_with fail
    exact bodyPost_ret (v := opE K ky ka na sa kb nb sb 0) (by simp [results, Tryd.results18, go_sem, q0, q1, q2, q3, q4, q5, q6, q7]) rfl ⟨rfl, below8 hB (Nat.le_refl _) _ _ _ _ _ _ _ _⟩

theorem deedRead_any (s : ByteArray) (w : World) (hs : s.size ≤ 1000) (hL : LaidD w) :
    Calls Tryd.prog 18 #[.string s] w fun e w' => e = .returned (rT (readD s.data.toList)) ∧ Below w.heap.size w w' := by
  have hl : s.data.toList.length = s.size := Array.length_toList
  have hp := fun (W : World) (h : LaidD W) => parse_any s W hs h
  cases hx : parseP s.data.toList with
  | none =>
    have e : readD s.data.toList = none := by unfold readD; rw [hx]
    rw [e]
    rw [hx] at hp
    exact readD_no s w hL hp
  | some p =>
    have ok := pv_ok hx
    obtain ⟨h1, h2, h3⟩ := ok
    rw [hx] at hp
    have e : rT (readD s.data.toList) = if goodP p = true then rT (some p) else rT none := by
      unfold readD
      rw [hx]
      simp only
      split <;> rfl
    rw [e]
    have z1 : (⟨p.2.1.toArray⟩ : ByteArray).size ≤ maxLen := by rw [size_of]; unfold maxLen; omega
    have z2 : (⟨p.2.2.1.2.2.1.toArray⟩ : ByteArray).size ≤ maxLen := by rw [size_of]; have := goodW_len h2.1; unfold maxLen; omega
    have z3 : (⟨p.2.2.2.2.2.1.toArray⟩ : ByteArray).size ≤ maxLen := by rw [size_of]; have := goodW_len h3.1; unfold maxLen; omega
    exact readD_op s w hL _ _ _ _ _ _ _ _ z1 z2 z3 hp
end Go.Proofs.YtmilcgikncecnaaDoor
