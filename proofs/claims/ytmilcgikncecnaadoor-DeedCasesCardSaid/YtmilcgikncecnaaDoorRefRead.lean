/-
  WHAT IS PROVED: the document's reading of what stands within the quotes is the plain function readQ, for texts of at most 2^40 bytes.
-/
import Derived.Test.YtmilcgikncecnaaDoorRefText
import Derived.Test.YtmilcgikncecnaaDoorReadByte
import Derived.Test.YtmilcgikncecnaaDoorReadText
namespace Go.Proofs.YtmilcgikncecnaaDoor
open Go.RowKit

set_option maxHeartbeats 1000000 in
theorem hex_any (c : UInt8) (w : World) :
    Calls Tryd.prog 58 #[.int .u8 c.toNat] w fun e w' => e = .returned (.int .i64 (hexv c)) ∧ w = w' := by
  have hc := c.toNat_lt
  by_cases h1 : 48 ≤ c.toNat ∧ c.toNat ≤ 57
  · have R : Hid ((hexv c : Int) = (c.toNat : Int) - 48) := by show _ = _; unfold hexv; rw [if_pos h1]; omega
    have i1 : (48 : Int) ≤ (c.toNat : Int) := by omega
    have i2 : (c.toNat : Int) ≤ 57 := by omega
    clear h1
    go_enter Tryd.func58, Tryd.ntmps58
    go_wp2_with fail
    go_ret
    exact ⟨ret_i64 R.out.symm, rfl⟩
  · by_cases h2 : 97 ≤ c.toNat ∧ c.toNat ≤ 102
    · have R : Hid ((hexv c : Int) = (c.toNat : Int) - 97 + 10) := by show _ = _; unfold hexv; rw [if_neg h1, if_pos h2]; omega
      have i1 : (97 : Int) ≤ (c.toNat : Int) := by omega
      have i2 : (c.toNat : Int) ≤ 102 := by omega
      clear h1 h2
      go_enter Tryd.func58, Tryd.ntmps58
      go_wp2_with fail
      go_ret
      exact ⟨ret_i64 R.out.symm, rfl⟩
    · have R : Hid ((hexv c : Int) = 16) := by show _ = _; unfold hexv; rw [if_neg h1, if_neg h2]; rfl
      by_cases q1 : (c.toNat : Int) < 48
      · clear h1 h2
        go_enter Tryd.func58, Tryd.ntmps58
        go_wp2_with fail
        go_ret
        exact ⟨ret_i64 R.out.symm, rfl⟩
      · have q2 : (57 : Int) < (c.toNat : Int) := by omega
        by_cases q3 : (c.toNat : Int) < 97
        · clear h1 h2
          go_enter Tryd.func58, Tryd.ntmps58
          go_wp2_with fail
          go_ret
          exact ⟨ret_i64 R.out.symm, rfl⟩
        · have q4 : (102 : Int) < (c.toNat : Int) := by omega
          clear h1 h2
          go_enter Tryd.func58, Tryd.ntmps58
          go_wp2_with fail
          go_ret
          exact ⟨ret_i64 R.out.symm, rfl⟩

theorem rowL_form {B : Nat} {v : Value} {l : List UInt8} {w : World} (h : rowL B v l w) : ∃ ao cap, v = .slice ao l.length cap := by
  rcases h.2 with ⟨hv, h0⟩ | ⟨g, cap, cur, hv, _⟩
  · exact ⟨none, 0, by rw [hv, h0]⟩
  · exact ⟨_, _, hv⟩
theorem esc_w64 (a b : UInt8) (ha : hexv a < 16) (hb : hexv b < 16) : wrap64 (wrap64 (16 * (hexv a : Int)) + (hexv b : Int)) % 256 = ((escV a b).toNat : Int) := by
  have e1 : wrap64 (16 * (hexv a : Int)) = 16 * (hexv a : Int) := by unfold wrap64; omega
  have e2 : wrap64 (16 * (hexv a : Int) + (hexv b : Int)) = 16 * (hexv a : Int) + (hexv b : Int) := by unfold wrap64; omega
  have e3 : (escV a b).toNat = 16 * hexv a + hexv b := by
    rw [escV, UInt8.toNat_ofNat_of_lt']
    show _ < 256
    omega
  rw [e1, e2, e3]
  omega
theorem esc_val (a b : UInt8) (ha : hexv a < 16) (hb : hexv b < 16) : ((escV a b).toNat : Int) = 16 * (hexv a : Int) + (hexv b : Int) := by
  have e3 : (escV a b).toNat = 16 * hexv a + hexv b := by
    rw [escV, UInt8.toNat_ofNat_of_lt']
    show _ < 256
    omega
  rw [e3]
  omega
theorem plain_w64 (a b : UInt8) (x : Bool) (h : plainC (escV a b) = x) (ha : hexv a < 16) (hb : hexv b < 16) (w : World) :
    Calls Tryd.prog 47 #[.int .u8 (wrap64 (wrap64 (16 * (hexv a : Int)) + (hexv b : Int)) % 256)] w fun e w' => e = .returned (.bool x) ∧ w' = w := by
  rw [esc_w64 a b ha hb, ← h]
  refine (refPlain_any _ w).mono ?_
  rintro e w' ⟨rfl, rfl⟩
  exact ⟨rfl, rfl⟩
/-- A test within the reading of '%' and two digits. -/
theorem esc_short (s : ByteArray) (k : Nat) (hk : k < s.size) (h37 : s[k] = 37) (h : s.size ≤ k + 2) : unq (s.data.toList.drop k) = none := by
  have hl : s.data.toList.length = s.size := Array.length_toList
  rw [drop_cons s k hk, h37]
  refine unq_bad _ _ (by decide) (Or.inr (Or.inl ?_))
  rw [List.length_drop]
  omega
theorem esc_at (s : ByteArray) (k : Nat) (h : k + 2 < s.size) (h37 : s[k] = 37) : s.data.toList.drop k = (37 : UInt8) :: s[k + 1] :: s[k + 2] :: s.data.toList.drop (k + 3) := by
  have g0 := drop_cons s k (by omega)
  have g1 := drop_cons s (k + 1) (by omega)
  have g2 := drop_cons s (k + 2) h
  rw [g0, g1, g2, h37]
theorem esc_none (s : ByteArray) (k : Nat) (h : k + 2 < s.size) (h37 : s[k] = 37) (he : escB s[k + 1] s[k + 2] = false) : unq (s.data.toList.drop k) = none := by
  rw [esc_at s k h h37]
  exact unq_bad _ _ (by decide) (Or.inr (Or.inr ⟨_, _, _, rfl, he⟩))

theorem unq_at (s : ByteArray) (k : Nat) (hk : k < s.size) : s.data.toList.drop k = s[k] :: s.data.toList.drop (k + 1) := drop_cons s k hk

set_option maxRecDepth 100000 in
set_option maxHeartbeats 8000000 in
theorem refQ_any (s : ByteArray) (w : World) (hs : s.size ≤ 1099511627776) :
    Calls Tryd.prog 48 #[.string s] w fun e w' => e = .returned (rvOf (readQ s.data.toList)) ∧ Below w.heap.size w w' := by
  have hl : s.data.toList.length = s.size := Array.length_toList
  obtain ⟨i0, hi, hz0, hz1, hz2⟩ := info_parts infoByte
  go_enter Tryd.func48, Tryd.ntmps48
  go_wp2_with fail
  go_loopw [4, 5] (fun v i wr => ∃ (k : Nat) (acc : List UInt8), k ≤ s.size ∧ i = .int .i64 k ∧ rowL (w.heap.size + 1) v acc wr ∧ acc.length ≤ k ∧
    Below (w.heap.size + 1) (w.alloc (.cells #[.int .i64 0, .int .i64 0, .string ⟨#[]⟩] 26)) wr ∧ Hid (unq s.data.toList = (unq (s.data.toList.drop k)).map (acc ++ ·))) (fun _ i _ => s.size - (intOf i).toNat)
  case atStart =>
    refine ⟨0, [], Nat.zero_le _, rfl, World.ownsRow_nil _ _ _ _, Nat.zero_le _, Below.refl _ _, ?_⟩
    show _ = _
    simp
  case round =>
    obtain ⟨k, acc, hk, rfl, hR, hal, hB, hU⟩ := hrel
    obtain ⟨q0, q1, q2, f0, f1, f2⟩ := res_cells hB
    have hBz : w.heap.size + 1 ≤ wr.heap.size := by simpa using hB.size
    by_cases hlt : k < s.size
    · have i1 : (k : Int) < (s.size : Int) := by omega
      have i0' : (0 : Int) ≤ (k : Int) := by omega
      have hcons := unq_at s k hlt
      by_cases h37 : s[k] = 37
      · have e37 : ((s[k].toNat : Int) != 37) = false := by rw [h37]; rfl
        by_cases hsh : s.size ≤ k + 2
        · have R : Hid (readQ s.data.toList = (0, 0, [], 2)) := by
            have := hU.out
            rw [esc_short s k hlt h37 hsh] at this
            show _ = _
            unfold readQ
            rw [this]
            rfl
          have g1 : (s.size : Int) - 2 ≤ (k : Int) := by omega
          clear h37 hcons hsh
          go_wp2_with fail
          go_quiet (fail)
          go_wp2_with fail
          rw [R.out]
          exact bodyPost_ret (v := rvOf (0, 0, [], 2)) (by simp [results, Tryd.results48, go_sem, rvOf, q0, q1, q2]) rfl ⟨rfl, below3 (bdn (below_up hB) _) _ _ _⟩
        · have h2 : k + 2 < s.size := by omega
          have p1 : k + 1 < s.size := by omega
          clear hsh
          have g1 : ¬ (s.size : Int) - 2 ≤ (k : Int) := by omega
          have g2 : (k : Int) + 1 < (s.size : Int) := by omega
          have g3 : (k : Int) + 2 < (s.size : Int) := by omega
          have g4 : (0 : Int) ≤ (k : Int) + 1 := by omega
          have g5 : (0 : Int) ≤ (k : Int) + 2 := by omega
          have g6 : IntKind.i64.wrap ((k : Int) + 1) = (k : Int) + 1 := IntWalk.i64_in _ (by omega)
          have g7 : IntKind.i64.wrap ((k : Int) + 2) = (k : Int) + 2 := IntWalk.i64_in _ (by omega)
          have g8 : ((k : Int) + 1).toNat = k + 1 := by omega
          have g9 : ((k : Int) + 2).toNat = k + 2 := by omega
          have gB : IntKind.i64.wrap ((s.size : Int) - 2) = (s.size : Int) - 2 := IntWalk.i64_in _ (by omega)
          have gC : decide ((s.size : Int) - 2 ≤ (k : Int)) = false := by simp; omega
          by_cases hx1 : hexv s[k + 1] < 16
          · have d1 : decide ((15 : Int) < (hexv s[k + 1] : Int)) = false := by simp; omega
            by_cases hx2 : hexv s[k + 2] < 16
            · have d2 : decide ((15 : Int) < (hexv s[k + 2] : Int)) = false := by simp; omega
              by_cases hpl : plainC (escV s[k + 1] s[k + 2]) = true
              · have R : Hid (readQ s.data.toList = (0, 0, [], 2)) := by
                  have := hU.out
                  have h1 : plainC (UInt8.ofNat (16 * hexv s[k + 1] + hexv s[k + 2])) = true := hpl
                  rw [esc_none s k h2 h37 (by simp only [escB, h1, Bool.not_true, Bool.and_false])] at this
                  show _ = _
                  unfold readQ
                  rw [this]
                  rfl
                have Hx1 := Lib.hid hx1
                have Hx2 := Lib.hid hx2
                have Hpl := Lib.hid hpl
                clear h37 hcons hx1 hx2 hpl
                go_wp2_with fail
                go_quiet ((first | (go_at_call 58; exact Calls.quiet_of_same ((hex_any _ _).mono fun _ _ h => ⟨h.1, h.2.symm⟩)) | (go_at_call 47; exact Calls.quiet_of_same (plain_w64 _ _ _ Hpl.out Hx1.out Hx2.out _))))
                go_wp2_with fail
                rw [R.out]
                exact bodyPost_ret (v := rvOf (0, 0, [], 2)) (by simp [results, Tryd.results48, go_sem, rvOf, q0, q1, q2]) rfl ⟨rfl, below3 (bdn (below_up hB) _) _ _ _⟩
              · have hpl0 : plainC (escV s[k + 1] s[k + 2]) = false := by simpa using hpl
                have hU2 : Hid (unq s.data.toList = (unq (s.data.toList.drop (k + 3))).map ((acc ++ [escV s[k + 1] s[k + 2]]) ++ ·)) := by
                  have := hU.out
                  have hesc : escB s[k + 1] s[k + 2] = true := by
                    have h1 : plainC (UInt8.ofNat (16 * hexv s[k + 1] + hexv s[k + 2])) = false := hpl0
                    simp only [escB, h1, hx1, hx2, and_self, decide_true, Bool.not_false, Bool.and_self]
                  rw [esc_at s k h2 h37, unq_esc _ _ _ hesc] at this
                  show _ = _
                  rw [this]
                  simp [Function.comp_def, escV]
                have Hx1 := Lib.hid hx1
                have Hx2 := Lib.hid hx2
                have Hpl := Lib.hid hpl0
                clear h37 hcons hx1 hx2 hpl hpl0
                go_wp2_with fail
                go_quiet ((first | (go_at_call 58; exact Calls.quiet_of_same ((hex_any _ _).mono fun _ _ h => ⟨h.1, h.2.symm⟩)) | (go_at_call 47; exact Calls.quiet_of_same (plain_w64 _ _ _ Hpl.out Hx1.out Hx2.out _))))
                go_wp2_with fail
                have hB2 := bdn hB nq
                have hR2 : rowL (w.heap.size + 1) u4 acc (wr.drewN nq) := hR
                have hBz2 : w.heap.size + 1 ≤ (wr.drewN nq).heap.size := hBz
                have m1 : IntKind.i64.wrap (16 * (hexv s[k + 1] : Int)) = 16 * (hexv s[k + 1] : Int) := IntWalk.i64_in _ (by have := Hx1.out; omega)
                have m2 : IntKind.i64.wrap (16 * (hexv s[k + 1] : Int) + (hexv s[k + 2] : Int)) = 16 * (hexv s[k + 1] : Int) + (hexv s[k + 2] : Int) := IntWalk.i64_in _ (by have := Hx1.out; have := Hx2.out; omega)
                have m3 : IntKind.u8.wrap (16 * (hexv s[k + 1] : Int) + (hexv s[k + 2] : Int)) = 16 * (hexv s[k + 1] : Int) + (hexv s[k + 2] : Int) := wrap_u8 _ (by omega) (by have := Hx1.out; have := Hx2.out; omega)
                generalize wr.drewN nq = W2 at hB2 hR2 hBz2 ⊢
                go_region_held3 (fun w' => w'.cell? ⟨w.heap.size, 2, none⟩ = some (.string ⟨#[]⟩) ∧ Below (w.heap.size + 1) (w.alloc (.cells #[.int .i64 0, .int .i64 0, .string ⟨#[]⟩] 26)) w')
                  (first | exact boxKeep hB2.drew | exact boxKeep ((hB2.alloc hBz2 _).drew) | exact boxKeep (((hB2.alloc hBz2 _).drew).grown hgrow (by simp; omega) (fun k hk => (World.ownsRow.lt hR2 k hk).1)))
                  (first | (go_at_call 58; refine (hex_any _ _).mono ?_; rintro e w3 ⟨rfl, rfl⟩) | (refine step_append_lies _ (by rfl) _ _ _ (by rfl) (w.heap.size + 1) 5 i0 _ 1 1 Tryd.underlying59 hi hz0 hz1 hz2 rfl (by omega) u4 _ _ (by rfl) ((World.ownsRow.alloc hR2 _).drew) ⟨W2.heap.size, 0, none⟩ 1 1 _ (by rfl) (by rfl) (World.news_of_block (fr := (0, 0)) (heap_alloc_new W2 _)) (by simp [Value.oneCell']) (by omega) (by unfold maxLen; omega) (by omega) (by simp; omega) (W2.heap.size + 1) (by simp) ?_; intro gg cap w1 hown1 hgrow hat hlt1))
                clear m1 m2 m3
                all_goals
                  have hR3 : Hid (rowL (w.heap.size + 1) (.slice (some ⟨gg, 0, none⟩) (acc.length + 1) cap) (acc ++ [escV s[k + 1] s[k + 2]]) w1) := by
                    show rowL _ _ _ _
                    refine rowL_next (m := [escV s[k + 1] s[k + 2]]) ?_
                    rw [← esc_val _ _ Hx1.out Hx2.out] at hown1
                    exact hown1
                  have hB3 : Below (w.heap.size + 1) (w.alloc (.cells #[.int .i64 0, .int .i64 0, .string ⟨#[]⟩] 26)) w1 := by
                    first | assumption | exact (by assumption : _ ∧ Below (w.heap.size + 1) (w.alloc (.cells #[.int .i64 0, .int .i64 0, .string ⟨#[]⟩] 26)) w1).2
                  clear hown1 hgrow hat
                  go_wp2_with fail
                  go_roundw
                  case rel => exact ⟨k + 3, acc ++ [escV s[k + 1] s[k + 2]], by omega, by go_num, hR3.out, by simp; omega, hB3, hU2⟩
                  case measure => simp [intOf]; omega
            · have e2 : (15 : Int) < (hexv s[k + 2] : Int) := by omega
              have R : Hid (readQ s.data.toList = (0, 0, [], 2)) := by
                have := hU.out
                rw [esc_none s k h2 h37 (by simp only [escB, hx2, and_false, decide_false, Bool.false_and])] at this
                show _ = _
                unfold readQ
                rw [this]
                rfl
              clear h37 hcons hx1 hx2
              go_wp2_with fail
              go_quiet ((go_at_call 58; exact Calls.quiet_of_same ((hex_any _ _).mono fun _ _ h => ⟨h.1, h.2.symm⟩)))
              go_wp2_with fail
              rw [R.out]
              exact bodyPost_ret (v := rvOf (0, 0, [], 2)) (by simp [results, Tryd.results48, go_sem, rvOf, q0, q1, q2]) rfl ⟨rfl, below3 (bdn (below_up hB) _) _ _ _⟩
          · have e1 : (15 : Int) < (hexv s[k + 1] : Int) := by omega
            have R : Hid (readQ s.data.toList = (0, 0, [], 2)) := by
              have := hU.out
              rw [esc_none s k h2 h37 (by simp only [escB, hx1, false_and, decide_false, Bool.false_and])] at this
              show _ = _
              unfold readQ
              rw [this]
              rfl
            clear h37 hcons hx1
            go_wp2_with fail
            go_quiet ((go_at_call 58; exact Calls.quiet_of_same ((hex_any _ _).mono fun _ _ h => ⟨h.1, h.2.symm⟩)))
            go_wp2_with fail
            rw [R.out]
            exact bodyPost_ret (v := rvOf (0, 0, [], 2)) (by simp [results, Tryd.results48, go_sem, rvOf, q0, q1, q2]) rfl ⟨rfl, below3 (bdn (below_up hB) _) _ _ _⟩
      · have n37 : ((s[k].toNat : Int) != 37) = true := by
          have : s[k].toNat ≠ 37 := fun e => h37 (UInt8.toNat_inj.1 e)
          simp
          omega
        by_cases hp : plainC s[k] = true
        · have hp' : plainB s[k].toNat = true := hp
          have hU2 : Hid (unq s.data.toList = (unq (s.data.toList.drop (k + 1))).map ((acc ++ [s[k]]) ++ ·)) := by
            have := hU.out
            rw [hcons, unq_plain _ _ hp] at this
            show _ = _
            rw [this]
            simp [Function.comp_def]
          clear hp hcons h37
          go_wp2_with (first | (go_at_call 47; refine (refPlain_any _ _).mono ?_; rintro e w2 ⟨rfl, rfl⟩) |
            (at_builtin; refine wpList_append_own _ rfl _ _ 59 rfl (w.heap.size + 1) 5 i0 (.int .u8 0) 1 1 Tryd.underlying59 hi hz0 hz1 hz2 rfl (by decide) _ _ _ rfl (World.ownsRow.alloc hR _) ⟨wr.heap.size, 0, none⟩ 1 1 [.int .u8 s[k].toNat] rfl rfl ?c1 ?c2 ?c3 ?c4 ?c5 ?_))
          case c1 =>
            intro j u hj
            match j, hj with
            | 0, hj => simp at hj; subst hj; simp [Addr.add]
          case c2 => intro u hu; simp at hu; subst hu; rfl
          case c3 => unfold maxLen; omega
          case c4 => omega
          case c5 => simp; omega
          intro v' w2 hown' hgrow _
          have hR2 := rowL_next (m := [s[k]]) hown'
          have hB2 := below_next hB hBz hR hgrow
          clear hown' hgrow
          go_wp2_with fail
          go_roundw
          case rel => exact ⟨k + 1, acc ++ [s[k]], by omega, by go_num, hR2, by simp; omega, hB2, hU2⟩
          case measure => simp [intOf]; omega
        · have hp0 : plainC s[k] = false := by simpa using hp
          have hp' : plainB s[k].toNat = false := hp0
          have R : Hid (readQ s.data.toList = (0, 0, [], 2)) := by
            have := hU.out
            rw [hcons, unq_bad _ _ hp0 (Or.inl h37)] at this
            show _ = _
            unfold readQ
            rw [this]
            rfl
          clear hp hp0 hcons h37
          go_wp2_with (go_at_call 47; refine (refPlain_any _ _).mono ?_; rintro e w2 ⟨rfl, rfl⟩)
          rw [R.out]
          exact bodyPost_ret (v := rvOf (0, 0, [], 2)) (by simp [results, Tryd.results48, go_sem, rvOf, q0, q1, q2]) rfl ⟨rfl, below3 (below_up hB) _ _ _⟩
    · have hge : ¬ (k : Int) < (s.size : Int) := by omega
      have hq : Hid (unq s.data.toList = some acc) := by
        have h0 : s.data.toList.drop k = [] := List.drop_eq_nil_of_le (by omega)
        have := hU.out
        rw [h0] at this
        show _ = _
        rw [this]
        simp [unq]
      obtain ⟨ao, cap, hv⟩ := rowL_form hR
      subst hv
      by_cases h40 : 40 < acc.length
      · have j1 : (40 : Int) < (acc.length : Int) := by omega
        have R : Hid (readQ s.data.toList = (0, 0, [], 1)) := by
          show _ = _
          unfold readQ
          rw [hq.out]
          simp only
          rw [if_pos h40]
        go_wp2_with fail
        rw [R.out]
        exact bodyPost_ret (v := rvOf (0, 0, [], 1)) (by simp [results, Tryd.results48, go_sem, rvOf, q0, q1, q2]) rfl ⟨rfl, below3 (below_up hB) _ _ _⟩
      · have j1 : ¬ (40 : Int) < (acc.length : Int) := by omega
        have R : Hid (readQ s.data.toList = (2, 0, acc, 0)) := by
          show _ = _
          unfold readQ
          rw [hq.out]
          simp only
          rw [if_neg h40]
        go_wp2_with fail
        rw [conv_own _ _ _ _ hR]
        simp only [Result.andThen]
        rw [Oper.upon_value]
        go_wp2_with fail
        rw [R.out]
        exact bodyPost_ret (v := rvOf (2, 0, acc, 0)) (by simp [results, Tryd.results48, go_sem, rvOf, q0, q1, q2]) rfl ⟨rfl, below3 (below_up hB) _ _ _⟩
end Go.Proofs.YtmilcgikncecnaaDoor
