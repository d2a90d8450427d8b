/-
  WHAT IS PROVED: the document's text of a value is the plain function textV's. Conditions: those typed in each theorem.
-/
import Derived.Test.YtmilcgikncecnaaDoorReadMath2
import Derived.Test.YtmilcgikncecnaaDoorCellBase
import Derived.Test.YtmilcgikncecnaaDoorQuote
import Derived.Test.YtmilcgikncecnaaDoorSmall
import Derived.Test.YtmilcgikncecnaaDoorBuild
import Derived.Deep.RegionHeld3
import Derived.Deep.AppendLies
import Derived.Laws.IdiomStrings
import Derived.Laws.BytesArg
import Derived.Laws.OwnMore
import Derived.Laws.AppendOwn
namespace Go.Proofs.YtmilcgikncecnaaDoor
open Go.RowKit

/-- string of one byte. -/
theorem conv_one (W : World) (n : Int) (c : UInt8) (h : n = (c.toNat : Int)) :
    (convert 59 9 (.slice (some ⟨W.heap.size, 0, none⟩) 1 1)).run Tryd.prog (W.alloc (.cells #[.int .u8 n] 5)) = .ok (.string ⟨#[c]⟩) (W.alloc (.cells #[.int .u8 n] 5)) := by
  have := run_convert_bytes_back (P := Tryd.prog) (W.alloc (.cells #[.int .u8 n] 5)) 59 9 5 ⟨W.heap.size, 0, none⟩ 1 [c] Tryd.underlying59 Tryd.underlying5 Tryd.underlying9 (by
    intro j hj
    have hj0 : j = 0 := by simpa using hj
    subst hj0
    subst h
    have e : (⟨W.heap.size, 0, none⟩ : Addr).add 0 = ⟨W.heap.size, 0, none⟩ := by simp [Addr.add]
    rw [e]
    go_simp)
  simpa using this
/-- string of a row of the call's own. -/
theorem conv_own (W : World) (B : Nat) (v : Value) (l : List UInt8) (h : W.ownsRow B 5 1 v l.length (Lib.byteCells l)) :
    (convert 59 9 v).run Tryd.prog W = .ok (.string ⟨l.toArray⟩) W := by
  rcases h.2 with ⟨rfl, h0⟩ | ⟨g, cap, cur, rfl, _⟩
  · have : l = [] := List.length_eq_zero_iff.1 h0
    subst this
    exact run_convert_bytes_nil W 59 5 Tryd.underlying59 Tryd.underlying5 0 0 9 Tryd.underlying9
  · refine run_convert_bytes_back W 59 9 5 ⟨g, 0, none⟩ cap l Tryd.underlying59 Tryd.underlying5 Tryd.underlying9 ?_
    intro j hj
    have e : (⟨g, 0, none⟩ : Addr).add j = ⟨g, j, none⟩ := by unfold Addr.add; split <;> simp_all
    rw [e, h.cellAt j (by omega)]
    simp [Lib.byteCells, hj]

/-- A decimal digit. -/
def digC (v : Nat) : UInt8 := UInt8.ofNat (48 + v)
theorem digC_nat (v : Nat) (h : v < 10) : ((digC v).toNat : Int) = 48 + (v : Int) := by
  rw [digC, digit_toNat v h]
  omega
theorem dec_len (u : Nat) (h : u < 18446744073709551616) : (Lib.decDigits u).length ≤ 20 := by
  rcases digits_head u with k | ⟨c, r, e, hc⟩
  · omega
  · have hd : isDig c = true := by
      have := digits_all u
      rw [e] at this
      simp only [List.all_cons, Bool.and_eq_true] at this
      exact this.1
    have hlo := natFrom_low c r hd hc
    rw [← e, digits_nat] at hlo
    have h20 : (18446744073709551616 : Nat) ≤ 10 ^ 20 := by decide
    have l3 : 10 ^ r.length < 10 ^ 20 := by omega
    have l4 := (Nat.pow_lt_pow_iff_right (by omega)).1 l3
    rw [e, List.length_cons]
    omega
theorem dec_small (v : Nat) (h : v < 10) : Lib.decDigits v = [digC v] := by rw [Lib.decDigits, dif_pos h]; rfl
theorem dec_step (v : Nat) (h : ¬ v < 10) : Lib.decDigits v = Lib.decDigits (v / 10) ++ [digC (v % 10)] := by rw [Lib.decDigits, dif_neg h]; rfl

theorem app_data (a b : ByteArray) : (a ++ b).data.toList = a.data.toList ++ b.data.toList := by simp
theorem ret_str' {a b : ByteArray} (h : a.data.toList = b.data.toList) : Ending.returned (.string a) = .returned (.string b) := by
  have : a = b := by
    cases a; cases b
    simp only [ByteArray.mk.injEq]
    exact Array.toList_inj.1 h
  rw [this]

set_option maxRecDepth 100000 in
set_option maxHeartbeats 2000000 in
theorem digits_any (u : Nat) (a : Int) (ha : Hid (a = (u : Int))) (w : World) (h0 : 0 ≤ a) (h1 : a ≤ 18446744073709551615) :
    Calls Tryd.prog 57 #[.int .u64 a] w fun e w' => e = .returned (.string ⟨(Lib.decDigits u).toArray⟩) ∧ Below w.heap.size w w' := by
  go_enter Tryd.func57, Tryd.ntmps57
  go_wp2_with fail
  go_loopw [0, 3] (fun n t wr => ∃ (b : Int) (v : Nat) (r : ByteArray), n = .int .u64 b ∧ t = .string r ∧ 0 ≤ b ∧ b ≤ 18446744073709551615 ∧ r.size ≤ 20 ∧ Hid (b = (v : Int)) ∧ Hid (Lib.decDigits u = Lib.decDigits v ++ r.data.toList) ∧ Below w.heap.size w wr) (fun n _ _ => (intOf n).toNat)
  case atStart => exact ⟨a, u, ⟨#[]⟩, rfl, rfl, h0, h1, by decide, ha, (List.append_nil _).symm, Below.refl _ _⟩
  case round =>
    obtain ⟨b, v, r, rfl, rfl, hb0, hb1, hrs, hv, hE, hB'⟩ := hrel
    by_cases h10 : b < 10
    · have hb2 : 48 + b = ((digC v).toNat : Int) := by
        have := hv.out
        rw [digC_nat v (by omega)]
        omega
      have R : Hid (Lib.decDigits u = digC v :: r.data.toList) := by
        have := hv.out
        show _ = _
        rw [hE.out, dec_small v (by omega)]
        rfl
      have Hb := Lib.hid hb2
      clear hb2
      go_wp2_with fail
      rw [conv_one _ _ _ Hb.out]
      simp only [Result.andThen]
      rw [Oper.upon_value]
      have hsz : (⟨#[digC v]⟩ : ByteArray).size = 1 := rfl
      go_wp2_with fail
      go_ret
      refine ⟨ret_str' ?_, ba hB' _⟩
      rw [app_data, R.out]
      rfl
    · have i10 : 10 ≤ b := by omega
      have hb2 : 48 + b % 10 = ((digC (v % 10)).toNat : Int) := by
        have := hv.out
        rw [digC_nat (v % 10) (by omega)]
        omega
      have hv2 : Hid (b / 10 = ((v / 10 : Nat) : Int)) := by
        have := hv.out
        show _ = _
        omega
      have R : Hid (Lib.decDigits u = Lib.decDigits (v / 10) ++ (digC (v % 10) :: r.data.toList)) := by
        have := hv.out
        show _ = _
        rw [hE.out, dec_step v (by omega), List.append_assoc]
        rfl
      have rs2 : r.size + 1 ≤ 20 := by
        have g1 := dec_len u (by have := ha.out; omega)
        have g2 := congrArg List.length hE.out
        have g3 : 0 < (Lib.decDigits v).length := List.length_pos_iff.2 (digits_ne v)
        have g4 : r.data.toList.length = r.size := Array.length_toList
        rw [List.length_append] at g2
        omega
      have Hb := Lib.hid hb2
      clear h10 hb2
      go_wp2_with fail
      rw [conv_one _ _ _ Hb.out]
      simp only [Result.andThen]
      rw [Oper.upon_value]
      have hsz : (⟨#[digC (v % 10)]⟩ : ByteArray).size = 1 := rfl
      go_wp2_with fail
      go_roundw
      case rel =>
        refine ⟨b / 10, v / 10, ⟨#[digC (v % 10)]⟩ ++ r, rfl, rfl, by omega, by omega, ?_, hv2, ?_, ba hB' _⟩
        · rw [ByteArray.size_append, hsz]
          omega
        · show _ = _
          rw [app_data, R.out]
          rfl
      case measure => simp [intOf]; omega

theorem wrap_neg (n : Int) (h0 : -9223372036854775808 ≤ n) (h1 : n < 0) : IntKind.u64.wrap (-IntKind.u64.wrap n) = -n := by
  have hb : IntKind.u64.bits = 64 := rfl
  have hs : IntKind.u64.signed = false := rfl
  have h64 : (2 : Int) ^ 64 = 18446744073709551616 := by decide
  simp only [IntKind.wrap, hb, hs, Bool.false_and, Bool.false_eq_true, if_false, h64]
  omega

theorem digits_neg (n : Int) (w : World) (h0 : -9223372036854775808 ≤ n) (h1 : n < 0) :
    Calls Tryd.prog 57 #[.int .u64 (IntKind.u64.wrap (-IntKind.u64.wrap n))] w fun e w' => e = .returned (.string ⟨(Lib.decDigits n.natAbs).toArray⟩) ∧ Below w.heap.size w w' := by
  rw [wrap_neg n h0 h1]
  exact digits_any n.natAbs (-n) (by show _ = _; omega) w (by omega) (by omega)

set_option maxRecDepth 100000 in
set_option maxHeartbeats 1000000 in
theorem decimal_any (n : Int) (w : World) (h0 : -9223372036854775808 ≤ n) (h1 : n ≤ 9223372036854775807) :
    Calls Tryd.prog 46 #[.int .i64 n] w fun e w' => e = .returned (.string ⟨(Lib.itoa n).toArray⟩) ∧ Below w.heap.size w w' := by
  by_cases hn : n < 0
  · have R : Hid (Lib.itoa n = 45 :: Lib.decDigits n.natAbs) := by show _ = _; unfold Lib.itoa; rw [if_pos hn]
    have hl : (⟨(Lib.decDigits n.natAbs).toArray⟩ : ByteArray).size ≤ 20 := by
      have := dec_len n.natAbs (by omega)
      simpa [ByteArray.size] using this
    have hsz : (⟨#[45]⟩ : ByteArray).size = 1 := rfl
    go_enter Tryd.func46, Tryd.ntmps46
    go_wp2_with (go_at_call 57; refine (digits_neg _ _ h0 hn).mono ?_; rintro e w2 ⟨rfl, hb2⟩)
    go_ret
    exact ⟨ret_str' (by rw [app_data, R.out]; rfl), hb2⟩
  · have R : Hid (Lib.itoa n = Lib.decDigits n.toNat) := by show _ = _; unfold Lib.itoa; rw [if_neg hn]
    have hm : Hid (n = (n.toNat : Int)) := by show _ = _; omega
    have i0 : 0 ≤ n := by omega
    clear hn
    go_enter Tryd.func46, Tryd.ntmps46
    go_wp2_with (go_at_call 57; refine (digits_any _ _ hm _ (by omega) (by omega)).mono ?_; rintro e w2 ⟨rfl, hb2⟩)
    go_ret
    exact ⟨ret_str' (by rw [R.out]), hb2⟩

set_option maxHeartbeats 1000000 in
theorem refText_nil (n : Int) (s : ByteArray) (w : World) :
    Calls Tryd.prog 33 #[.agg #[.int .i64 0, .int .i64 n, .string s]] w fun e w' => e = .returned (.string ⟨(textV 0 n s.data.toList).toArray⟩) ∧ Below w.heap.size w w' := by
  rw [textV_0]
  go_enter Tryd.func33, Tryd.ntmps33
  go_wp2_with fail
  go_ret
  exact ⟨ret_str' rfl, b0 _ _⟩
set_option maxHeartbeats 1000000 in
theorem refText_int (n : Int) (s : ByteArray) (w : World) (h0 : -9223372036854775808 ≤ n) (h1 : n ≤ 9223372036854775807) :
    Calls Tryd.prog 33 #[.agg #[.int .i64 1, .int .i64 n, .string s]] w fun e w' => e = .returned (.string ⟨(textV 1 n s.data.toList).toArray⟩) ∧ Below w.heap.size w w' := by
  rw [textV_1]
  go_enter Tryd.func33, Tryd.ntmps33
  go_wp2_with (go_at_call 46; refine (decimal_any _ _ h0 h1).mono ?_; rintro e w2 ⟨rfl, hb2⟩)
  go_ret
  exact ⟨ret_str' rfl, bt (b0 _ _) hb2⟩

/-- The row that holds l. -/
def rowL (B : Nat) (v : Value) (l : List UInt8) (w : World) : Prop := w.ownsRow B 5 1 v l.length (Lib.byteCells l)
theorem rowL_next {B : Nat} {v' : Value} {l : List UInt8} {m : List UInt8} {w2 : World} (h : w2.ownsRow B 5 1 v' (l.length + m.length) (Lib.byteCells l ++ Lib.byteCells m)) : rowL B v' (l ++ m) w2 := by
  unfold rowL
  rw [Lib.byteCells_append, List.length_append]
  exact h
theorem below_next {B : Nat} {W w1 w2 : World} {v : Value} {l : List UInt8} {o : Obj} (hB : Below B W w1) (hz : B ≤ w1.heap.size) (hown : rowL B v l w1) (hgrow : (w1.alloc o).grownBy w2 v.ownBlock) : Below B W w2 :=
  (hB.alloc hz o).grown hgrow (by simp; omega) (fun k hk => (hown.lt k hk).1)

theorem wrap_u8 (n : Int) (h0 : 0 ≤ n) (h1 : n ≤ 255) : IntKind.u8.wrap n = n := by
  have hb : IntKind.u8.bits = 8 := rfl
  have hs : IntKind.u8.signed = false := rfl
  have h8 : (2 : Int) ^ 8 = 256 := by decide
  simp only [IntKind.wrap, hb, hs, Bool.false_and, Bool.false_eq_true, if_false, h8]
  omega
theorem boxKeep {w W : World} {v0 v1 v2 : Value} {t : TypeId} (h : Below (w.heap.size + 1) (w.alloc (.cells #[v0, v1, v2] t)) W) :
    W.cell? ⟨w.heap.size, 2, none⟩ = some v2 ∧ Below (w.heap.size + 1) (w.alloc (.cells #[v0, v1, v2] t)) W := ⟨(res_cells h).2.2.1, h⟩

set_option maxRecDepth 100000 in
set_option maxHeartbeats 4000000 in
theorem refText_text (n : Int) (s : ByteArray) (w : World) (hs : s.size ≤ 1099511627776) :
    Calls Tryd.prog 33 #[.agg #[.int .i64 2, .int .i64 n, .string s]] w fun e w' => e = .returned (.string ⟨(textV 2 n s.data.toList).toArray⟩) ∧ Below w.heap.size w w' := by
  have hT := textV_2 n s.data.toList
  have HT := Lib.hid hT
  clear hT
  obtain ⟨i0, hi, hz0, hz1, hz2⟩ := info_parts infoByte
  go_enter Tryd.func33, Tryd.ntmps33
  go_wp2_with fail
  go_loopw [4, 5] (fun v i wr => ∃ k : Nat, k ≤ s.size ∧ i = .int .i64 k ∧ rowL (w.heap.size + 1) v (34 :: quoL (s.data.toList.take k)) wr ∧
    Below (w.heap.size + 1) (w.alloc (.cells #[.int .i64 2, .int .i64 n, .string s] 26)) wr) (fun _ i _ => s.size - (intOf i).toNat)
  case atStart =>
    refine ⟨0, Nat.zero_le _, rfl, ?_, (Below.refl _ _).alloc (by simp) _⟩
    unfold rowL
    have hz : (w.alloc (.cells #[.int .i64 2, .int .i64 n, .string s] 26)).heap.size = w.heap.size + 1 := by simp
    have := World.ownsRow_lit (base := w.heap.size + 1) (e := 5) (size := 1) (w.alloc (.cells #[.int .i64 2, .int .i64 n, .string s] 26)) #[.int .u8 34] 1 (by omega) (by decide) rfl
    rw [hz] at this
    exact this
  case round =>
    obtain ⟨k, hk, rfl, hR, hB⟩ := hrel
    obtain ⟨q0, q1, q2, f0, f1, f2⟩ := res_cells hB
    have hBz : w.heap.size + 1 ≤ wr.heap.size := by simpa using hB.size
    have hql := quoL_len (s.data.toList.take k)
    have htl : (s.data.toList.take k).length ≤ k := List.length_take_le _ _
    by_cases hlt : k < s.size
    · have i1 : (k : Int) < (s.size : Int) := by omega
      by_cases hp : plainC s[k] = true
      · have hp' : plainB s[k].toNat = true := hp
        have Hp := Lib.hid hp
        clear hp
        go_wp2_with (first | (go_at_call 47; refine (refPlain_any _ _).mono ?_; rintro e w2 ⟨rfl, rfl⟩) |
          (at_builtin; refine wpList_append_own _ rfl _ _ 59 rfl (w.heap.size + 1) 5 i0 (.int .u8 0) 1 1 Tryd.underlying59 hi hz0 hz1 hz2 rfl (by decide) _ _ _ rfl (World.ownsRow.alloc hR _) ⟨wr.heap.size, 0, none⟩ 1 1 [.int .u8 s[k].toNat] rfl rfl ?c1 ?c2 ?c3 ?c4 ?c5 ?_))
        case c1 =>
          intro j u hj
          match j, hj with
          | 0, hj => simp at hj; subst hj; simp [Addr.add]
        case c2 => intro u hu; simp at hu; subst hu; rfl
        case c3 => unfold maxLen; simp; omega
        case c4 => simp; omega
        case c5 => simp; omega
        intro v' w2 hown' hgrow _
        have hR2 := rowL_next (m := [s[k]]) hown'
        have hB2 := below_next hB hBz hR hgrow
        clear hown' hgrow
        go_wp2_with fail
        go_roundw
        case rel =>
          refine ⟨k + 1, by omega, by go_num, ?_, hB2⟩
          rw [take_snoc s k hlt, quoL_snoc, quoB, if_pos Hp.out]
          exact hR2
        case measure => simp [intOf]; omega
      · have hp' : plainB s[k].toNat = false := by simpa [plainC] using hp
        have Hp := Lib.hid hp
        clear hp
        go_wp2_with (go_at_call 47; refine (refPlain_any _ _).mono ?_; rintro e w2 ⟨rfl, rfl⟩)
        have hc256 : s[k].toNat < 256 := s[k].toNat_lt
        have j1 : (0 : Int) ≤ (s[k].toNat : Int) / 16 := by omega
        have j2 : (s[k].toNat : Int) / 16 < 16 := by omega
        have j3 : (0 : Int) ≤ (s[k].toNat : Int) % 16 := by omega
        have j4 : (s[k].toNat : Int) % 16 < 16 := by omega
        have j5 : (s[k].toNat : Int) < 256 := by omega
        have j6 : s[k].toNat / 16 < 16 := by omega
        have j7 : s[k].toNat % 16 < 16 := by omega
        have j8 : (0 : Int) ≤ (s[k].toNat : Int) := by omega
        have hRl : ((34 :: quoL (s.data.toList.take k)).length + 3) ≤ 140737488355328 := by simp; omega
        have hw1 : IntKind.u8.wrap ((s[k].toNat : Int) / 16) = (s[k].toNat : Int) / 16 := wrap_u8 _ (by omega) (by omega)
        have hw4 : (s[k].toNat : Int).tmod 16 = (s[k].toNat : Int) % 16 := Int.tmod_eq_emod_of_nonneg (by omega)
        have hw2 : IntKind.u8.wrap ((s[k].toNat : Int) % 16) = (s[k].toNat : Int) % 16 := wrap_u8 _ (by omega) (by omega)
        go_region_held3 (fun w' => w'.cell? ⟨w.heap.size, 2, none⟩ = some (.string s) ∧ Below (w.heap.size + 1) (w.alloc (.cells #[.int .i64 2, .int .i64 n, .string s] 26)) w')
          (first | exact boxKeep hB.drew | exact boxKeep ((hB.alloc hBz _).drew) | exact boxKeep (((hB.alloc hBz _).drew).grown hgrow (by simp; omega) (fun k hk => (World.ownsRow.lt hR k hk).1)))
          ((refine step_append_lies _ (by rfl) _ _ _ (by rfl) (w.heap.size + 1) 5 i0 _ 1 1 Tryd.underlying59 hi hz0 hz1 hz2 rfl (by omega) u4 _ _ (by rfl) ((World.ownsRow.alloc hR _).drew) ⟨wr.heap.size, 0, none⟩ 3 3 _ (by rfl) (by rfl) (World.news_of_block (fr := (0, 0)) (heap_alloc_new wr _)) (by simp [Value.oneCell']) (by omega) (by unfold maxLen; omega) (by omega) (by simp; omega) (wr.heap.size + 1) (by simp) ?_; intro gg cap w1 hown1 hgrow hat hlt1))
        clear hw1 hw2 hw4
        all_goals
          have e1 : ((s[k].toNat : Int) / 16).toNat = s[k].toNat / 16 := by omega
          have e2 : ((s[k].toNat : Int) % 16).toNat = s[k].toNat % 16 := by omega
          have hR2 : Hid (rowL (w.heap.size + 1) (.slice (some ⟨gg, 0, none⟩) ((quoL (s.data.toList.take k)).length + 1 + 3) cap) ((34 :: quoL (s.data.toList.take k)) ++ [37, hexd (s[k].toNat / 16), hexd (s[k].toNat % 16)]) w1) := by
            show rowL _ _ _ _
            refine rowL_next (m := [37, hexd (s[k].toNat / 16), hexd (s[k].toNat % 16)]) ?_
            rw [hexd_at _ (by omega), hexd_at _ (by omega), e1, e2] at hown1
            exact hown1
          have hB2 : Below (w.heap.size + 1) (w.alloc (.cells #[.int .i64 2, .int .i64 n, .string s] 26)) w1 := by
            first | assumption | exact (by assumption : _ ∧ Below (w.heap.size + 1) (w.alloc (.cells #[.int .i64 2, .int .i64 n, .string s] 26)) w1).2
          clear e1 e2 hown1 hgrow hat
          go_wp2_with fail
          go_roundw
          case rel =>
            refine ⟨k + 1, by omega, by go_num, ?_, hB2⟩
            rw [take_snoc s k hlt, quoL_snoc, quoB, if_neg Hp.out]
            exact hR2.out
          case measure => simp [intOf]; omega
    · have hge : ¬ (k : Int) < (s.size : Int) := by omega
      go_wp2_with (at_builtin; refine wpList_append_own _ rfl _ _ 59 rfl (w.heap.size + 1) 5 i0 (.int .u8 0) 1 1 Tryd.underlying59 hi hz0 hz1 hz2 rfl (by decide) _ _ _ rfl (World.ownsRow.alloc hR _) ⟨wr.heap.size, 0, none⟩ 1 1 [.int .u8 34] rfl rfl ?d1 ?d2 ?d3 ?d4 ?d5 ?_)
      case d2 => rfl
      case d3 => unfold maxLen; omega
      case d4 => omega
      case d5 => omega
      intro v' w2 hown' hgrow _
      have hR2 : rowL (w.heap.size + 1) v' (34 :: quoL s.data.toList ++ [34]) w2 := by
        have ht : s.data.toList.take k = s.data.toList := List.take_of_length_le (by simp; omega)
        have := rowL_next (m := [34]) hown'
        rw [ht] at this
        exact this
      have hB2 := below_next hB hBz hR hgrow
      clear hown' hgrow
      go_wp2_with fail
      rw [conv_own _ _ _ _ hR2]
      simp only [Result.andThen]
      rw [Oper.upon_value]
      go_wp2_with fail
      go_ret
      exact ⟨ret_str' (by rw [HT.out]; simp), below_up hB2⟩
end Go.Proofs.YtmilcgikncecnaaDoor
