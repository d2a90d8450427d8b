/-
  WHAT IS PROVED: package wide's Put: behind bytes a number's lowest bytes, the highest first. Conditions: those typed in each theorem. · a burl's root: of its leaves' bytes. Conditions: those typed in each theorem. · append of one element onto a row of the call's own, with what else stays: nothing turns but the row's own block. Over any program · cells by index or block. Conditions: those typed in each theorem.
-/
import Derived.Test.YtokkmofcijfmiabGQ4
import Derived.Test.YtokkmofcijfmiabGQ2
import Derived.Test.YtokkmofcijfmiabBuC
import Derived.Test.YtokkmofcijfmiabGQ8
import Derived.Test.YtokkmofcijfmiabFastH
import Derived.Test.YtokkmofcijfmiabGQ7
import Derived.Test.YtokkmofcijfmiabGQ11
namespace Go.Proofs.Ytokkmofcijfmiab
open Go.RowKit

/-- A number's lowest bytes, so many, the highest first. -/
def wdB (k x : Nat) : List UInt8 := (List.range k).map fun i => UInt8.ofNat (x / 256 ^ (k - 1 - i) % 256)
theorem wdB_len (k x : Nat) : (wdB k x).length = k := by simp [wdB]
theorem wdB_get (k x j : Nat) (h : j < k) : (wdB k x)[j]? = some (UInt8.ofNat (x / 256 ^ (k - 1 - j) % 256)) := by simp [wdB, h]
theorem wdB_next (k x j : Nat) (h : j < k) : (wdB k x).take (j + 1) = (wdB k x).take j ++ [UInt8.ofNat (x / 256 ^ (k - 1 - j) % 256)] := by rw [List.take_add_one, wdB_get k x j h]; rfl
set_option maxRecDepth 100000 in
set_option maxHeartbeats 2000000 in
theorem widePut_any (base : Nat) (A : Option Addr) (n c : Nat) (l : List UInt8) (x k : Nat) (w : World) (hp : PreB base w A n c l) (hb : base ≤ w.heap.size) (hm : n ≤ 100000000000) (hx : x < 18446744073709551616) (h1 : 0 < k) (hk : k ≤ 8) :
    Calls Try.prog 53 #[.slice A n c, .int .u64 x, .int .i64 (k : Int)] w fun e w' => PutO base w (l ++ wdB k x) e w' := by
  obtain ⟨i0, hi0, hz0, hz1, hz2⟩ := info_parts byt_info
  have HX := Lib.hid hx
  have hl := hp.len
  clear hx
  go_enter Try.func53, Try.ntmps53
  go_wp2_with fail
  go_loopw [0, 7] (fun b i wr => ∃ (j : Nat) (A3 : Option Addr) (n3 c3 : Nat), j ≤ k ∧ b = .slice A3 n3 c3 ∧ i = .int .i64 ((k : Int) - 1 - (j : Int)) ∧ n3 = n + j ∧ PreB base wr A3 n3 c3 (l ++ (wdB k x).take j) ∧ (0 < j → OwnB base wr A3 n3 c3 (l ++ (wdB k x).take j)) ∧ Below base w wr ∧ Oth w wr) (fun _ i _ => (intOf i + 1).toNat)
  case atStart => exact ⟨0, A, n, c, Nat.zero_le _, rfl, by go_num, rfl, by simpa using hp, fun h => absurd h (by omega), Below.refl _ _, Oth.refl _⟩
  case round =>
    clear hp hl
    obtain ⟨j, A3, n3, c3, hj, rfl, rfl, hn3, hP, hO, hB, hT⟩ := hrel
    by_cases hlt : j < k
    · clear hO
      have hl2 := hP.len
      have i1 : (0 : Int) ≤ (k : Int) - 1 - (j : Int) := by omega
      have i2 : (k : Int) - 1 - (j : Int) < 8 := by omega
      have i3 : (j : Int) ≤ (k : Int) - 1 := by omega
      have hq := shift_byte x (k - 1 - j)
      have HE := Lib.hid (show l ++ (wdB k x).take j ++ [UInt8.ofNat (x / 256 ^ (k - 1 - j) % 256)] = l ++ (wdB k x).take (j + 1) by rw [wdB_next k x j hlt, List.append_assoc])
      have hown := litB wr (base := base) _ _ hq (Nat.le_trans hb hB.size)
      have hP2 := hP.keep (b0 wr (.cells #[.int .u8 ((x : Int) / 2 ^ (8 * (k - 1 - j)) % 256)] 5))
      have hB2 := hB.alloc (Nat.le_trans hb hB.size) (.cells #[.int .u8 ((x : Int) / 2 ^ (8 * (k - 1 - j)) % 256)] 5)
      have hT2 := hT.trans (Oth.below (b0 wr (.cells #[.int .u8 ((x : Int) / 2 ^ (8 * (k - 1 - j)) % 256)] 5)))
      have hn4 : n3 ≤ 100000000000 + 10 := by omega
      have HQ := Lib.hid hq
      have HN := Lib.hid hn3
      clear hq hP hl2 hn3
      go_wp2_with (at_builtin; refine wpList_apP (base := base) (n := n3) (m := 1) (l := l ++ (wdB k x).take j) (l2 := [UInt8.ofNat (x / 256 ^ (k - 1 - j) % 256)]) (by rfl) _ _ (by rfl) Try.underlying58 Try.underlying58 hi0 hz0 hz1 hz2 (by rfl) (by rfl) hP2 hown.rd rfl (by omega) (n3 + 1) rfl (by omega) (Nat.le_trans hb hB2.size) ?_; intro A6 c6 w6 hO6 hb6 ho6)
      rw [HE.out] at hO6
      have hT6 := hT2.trans ho6
      have hn7 : n3 + 1 = n + (j + 1) := by have := HN.out; omega
      go_roundw
      case rel => exact ⟨j + 1, A6, n3 + 1, c6, by omega, rfl, by go_num, hn7, .inl hO6, fun _ => hO6, hB2.trans hb6, hT6⟩
      case measure => simp [intOf]; omega
    · have i1 : ¬ (0 : Int) ≤ (k : Int) - 1 - (j : Int) := by omega
      have e : (wdB k x).take j = wdB k x := List.take_of_length_le (by rw [wdB_len]; omega)
      have hO2 := hO (by omega)
      clear hO hP
      rw [e, hn3] at hO2
      go_wp2_with fail
      go_ret
      exact ⟨⟨A3, n + j, c3, rfl, hO2⟩, hB, hT⟩
end Go.Proofs.Ytokkmofcijfmiab

namespace Go.Proofs.Ytokkmofcijfmiab
open Go.RowKit

theorem en_spinney_burl_rooted : ∀ args w, (callFunc 38 args).run Try.prog w = .ok (.enter 38 args) w := enters_of Try.func38 (by kernel_rfl) rfl

/-- The leaves' bytes. -/
def rowTo (L : List Nat) (k : Nat) : List UInt8 := ((L.take k).map (wdB 8)).flatten
def rootL (L : List Nat) : Nat := digL (rowTo L 16)
theorem rowTo_zero (L : List Nat) : rowTo L 0 = [] := by simp [rowTo]
theorem rowTo_next {L : List Nat} {k x : Nat} (h : L[k]? = some x) : rowTo L (k + 1) = rowTo L k ++ wdB 8 x := by
  unfold rowTo
  rw [List.take_add_one, h]
  simp
theorem rowTo_len {L : List Nat} : ∀ {k : Nat}, k ≤ L.length → (rowTo L k).length = 8 * k := by
  intro k
  induction k with
  | zero => intro _; simp [rowTo]
  | succ k ih =>
    intro h
    rw [rowTo_next (List.getElem?_eq_getElem (by omega)), List.length_append, wdB_len, ih (by omega)]
    omega
theorem rootL_lt (L : List Nat) : rootL L < 18446744073709551616 := digL_lt _
/-- The leaves as cells. -/
def buL (L : List Nat) : Array Value := (L.map fun x : Nat => Value.int .u64 (x : Int)).toArray
theorem buL_size (L : List Nat) : (buL L).size = L.length := by simp [buL]
theorem bu_cases {L : List Nat} (hl : L.length = 16) : ∃ a0 a1 a2 a3 a4 a5 a6 a7 a8 a9 a10 a11 a12 a13 a14 a15, L = [a0, a1, a2, a3, a4, a5, a6, a7, a8, a9, a10, a11, a12, a13, a14, a15] := by
  match L, hl with
  | [a0, a1, a2, a3, a4, a5, a6, a7, a8, a9, a10, a11, a12, a13, a14, a15], _ => exact ⟨_, _, _, _, _, _, _, _, _, _, _, _, _, _, _, _, rfl⟩
set_option maxRecDepth 100000 in
theorem ld_buL {W : World} {b r : Nat} {L : List Nat} (hX : Blk W b (buC r L) 39) (hl : L.length = 16) : (Instr.loadAt 37 (.pointer (some ⟨b, 1, none⟩))).run Try.prog W = .ok (.agg (buL L)) W := by
  obtain ⟨a0, a1, a2, a3, a4, a5, a6, a7, a8, a9, a10, a11, a12, a13, a14, a15, rfl⟩ := bu_cases hl
  exact run_loadAt_mid W b 1 _ (buL [a0, a1, a2, a3, a4, a5, a6, a7, a8, a9, a10, a11, a12, a13, a14, a15]).toList _ (fun j v hv => by
    rw [hX.cell (1 + j), Nat.add_comm]
    simpa [buC, buL] using hv) Try.underlying37 rfl (by kernel_rfl)
/-- The leaf at a place. -/
def gN (L : List Nat) (k : Nat) : Nat := match L[k]? with | some x => x | none => 0
theorem gN_some {L : List Nat} {k x : Nat} (h : L[k]? = some x) : gN L k = x := by unfold gN; rw [h]
set_option maxRecDepth 100000 in
set_option maxHeartbeats 2000000 in
theorem in_buG {L : List Nat} (hl : L.length = 16) {k : Nat} (hk : k < 16) (W : World) : (Instr.index 37 (.agg (buL L)) (.int .i64 (k : Int))).run Try.prog W = .ok (.int .u64 (gN L k : Nat)) W := by
  have hz : Try.prog.arrayLen 37 = 16 := by kernel_rfl
  have hc : Try.prog.cellsOf 36 = 1 := by kernel_rfl
  have i1 : (0 : Int) ≤ (k : Int) := by omega
  have i2 : (k : Int) < 16 := by omega
  obtain ⟨a0, a1, a2, a3, a4, a5, a6, a7, a8, a9, a10, a11, a12, a13, a14, a15, rfl⟩ := bu_cases hl
  simp [Instr.index, run_underlying Try.underlying37, asIntOf, go_sem]
  match k, hk with
  | 0, _ | 1, _ | 2, _ | 3, _ | 4, _ | 5, _ | 6, _ | 7, _ | 8, _ | 9, _ | 10, _ | 11, _ | 12, _ | 13, _ | 14, _ | 15, _ => rfl
theorem in_buL {L : List Nat} (hl : L.length = 16) {k x : Nat} (hx : L[k]? = some x) (hk : k < 16) (W : World) : (Instr.index 37 (.agg (buL L)) (.int .i64 (k : Int))).run Try.prog W = .ok (.int .u64 (x : Int)) W := by
  have h := in_buG hl hk W
  rw [gN_some hx] at h
  exact h
theorem st_u {W : World} {b j : Nat} {cs : Array Value} {T : TypeId} (hX : Blk W b cs T) (hj : j < cs.size) (x : Nat) : (Instr.storeAt 36 (.pointer (some ⟨b, j, none⟩)) (.int .u64 (x : Int))).run Try.prog W = .ok () (W.setCell ⟨b, j, none⟩ (.int .u64 (x : Int))) := by
  obtain ⟨u, hu⟩ := blk_some hX hj
  have hf := hX.free j
  clear hX
  go_simp
theorem buC_set0 (r r2 : Nat) (L : List Nat) : (buC r L).setIfInBounds 0 (.int .u64 (r2 : Int)) = buC r2 L := by simp [buC]
set_option maxRecDepth 100000 in
set_option maxHeartbeats 4000000 in
theorem rooted_any (r : Nat) (L : List Nat) (w : World) (hl : L.length = 16) (hL : ∀ x, x ∈ L → x < 18446744073709551616) : Calls Try.prog 38 #[.agg (buC r L)] w fun e w' => e = .returned (.agg (buC (rootL L) L)) ∧ Below w.heap.size w w' := by
  have hX0 := blk_new w (buC r L) 39
  replace hX0 := hX0.alloc (.cells #[.int .u64 0, .int .u64 0, .int .u64 0, .int .u64 0, .int .u64 0, .int .u64 0, .int .u64 0, .int .u64 0, .int .u64 0, .int .u64 0, .int .u64 0, .int .u64 0, .int .u64 0, .int .u64 0, .int .u64 0, .int .u64 0, .int .u64 0] 39)
  have hz1 : (w.alloc (.cells (buC r L) 39)).heap.size = w.heap.size + 1 := by simp
  have hX1 := blk_new (w.alloc (.cells (buC r L) 39)) #[.int .u64 0, .int .u64 0, .int .u64 0, .int .u64 0, .int .u64 0, .int .u64 0, .int .u64 0, .int .u64 0, .int .u64 0, .int .u64 0, .int .u64 0, .int .u64 0, .int .u64 0, .int .u64 0, .int .u64 0, .int .u64 0, .int .u64 0] 39
  rw [hz1] at hX1
  have hB := ba (b0 w (.cells (buC r L) 39)) (.cells #[.int .u64 0, .int .u64 0, .int .u64 0, .int .u64 0, .int .u64 0, .int .u64 0, .int .u64 0, .int .u64 0, .int .u64 0, .int .u64 0, .int .u64 0, .int .u64 0, .int .u64 0, .int .u64 0, .int .u64 0, .int .u64 0, .int .u64 0] 39)
  have hzz : ((w.alloc (.cells (buC r L) 39)).alloc (.cells #[.int .u64 0, .int .u64 0, .int .u64 0, .int .u64 0, .int .u64 0, .int .u64 0, .int .u64 0, .int .u64 0, .int .u64 0, .int .u64 0, .int .u64 0, .int .u64 0, .int .u64 0, .int .u64 0, .int .u64 0, .int .u64 0, .int .u64 0] 39)).heap.size = w.heap.size + 2 := by simp
  go_enter Try.func38, Try.ntmps38
  go_upto_region 2 with fail
  generalize ((w.alloc (.cells (buC r L) 39)).alloc (.cells #[.int .u64 0, .int .u64 0, .int .u64 0, .int .u64 0, .int .u64 0, .int .u64 0, .int .u64 0, .int .u64 0, .int .u64 0, .int .u64 0, .int .u64 0, .int .u64 0, .int .u64 0, .int .u64 0, .int .u64 0, .int .u64 0, .int .u64 0] 39)) = W0 at hX0 hX1 hB hzz ⊢
  (try simp only [hz1])
  clear hz1
  generalize hb : w.heap.size = b at hX0 hX1 hB hzz ⊢
  have f1 := fbu1 W0 b
  have l1 := ld_buL hX0 hl
  refine wp_region_lit ?_
  refine fl_start ?_
  generalize ha : Act.mk _ _ = a0
  have hn : a0.tmps.size = 19 := by rw [← ha]; kernel_rfl
  have h1 : (fr a0 []).eval (.tmp 1) = .pointer (some ⟨b, 0, none⟩) := by rw [← ha]; kernel_rfl
  refine fl_know hn rfl h1 ?_
  clear h1
  refine g_fd hn ?_
  refine g_ld hn ?_
  refine g_mc hn ?_
  refine fl_end ?_
  clear hn
  subst ha
  dsimp only [fr, cnd, Act.put, cond_true]
  simp only [List.setIfInBounds_toArray, List.set_cons_zero, List.set_cons_succ]
  clear f1 l1
  have hP0 : PreB W0.heap.size W0 none 0 0 ([] : List UInt8) := .inr ⟨RdB.nil _ _ _, rfl, rfl, by omega⟩
  go_wp2_with fail
  go_loopw [3, 5, 8] (fun b3 _ i wr => ∃ (k : Nat) (A : Option Addr) (n c : Nat), k ≤ 16 ∧ b3 = .slice A n c ∧ i = .int .i64 k ∧ PreB W0.heap.size wr A n c (rowTo L k) ∧ (0 < k → RdB wr.heap.size wr A (rowTo L k)) ∧ Below W0.heap.size W0 wr) (fun _ _ i _ => 16 - (intOf i).toNat)
  case atStart => exact ⟨0, none, 0, 0, by omega, rfl, rfl, by rw [rowTo_zero]; exact hP0, fun h => absurd h (by omega), Below.refl _ _⟩
  case round =>
    clear hP0
    obtain ⟨k, A, n, c, hk, rfl, rfl, hP, hR, hB1⟩ := hrel
    have hnk := hP.len
    rw [rowTo_len (by omega)] at hnk
    by_cases hlt : k < 16
    · clear hR
      obtain ⟨x, hx⟩ := at16 hl hlt
      have i2 : (k : Int) < 16 := by omega
      have hxl := hL x (List.mem_of_getElem? hx)
      have ni := in_buL hl hx hlt wr
      go_upto_region 4 with fail
      refine wp_region_lit ?_
      refine fl_start ?_
      generalize ha : Act.mk _ _ = a0
      have hn : a0.tmps.size = 19 := by rw [← ha]; kernel_rfl
      have h7 : (fr a0 []).eval (.tmp 7) = .agg (buL L) := by rw [← ha]; kernel_rfl
      refine fl_know hn rfl h7 ?_
      clear h7
      have h8 : (fr a0 [(7, true, .agg (buL L))]).eval (.tmp 8) = .int .i64 (k : Int) := by rw [← ha]; kernel_rfl
      refine fl_know hn rfl h8 ?_
      clear h8
      refine g_o2 (i := 7) (j := 8) (vi := .agg (buL L)) (vj := .int .i64 (k : Int)) (v := .int .u64 (x : Int)) hn (fun ρ h1 h2 _ => by unfold execOp; dsimp only; rw [h1, h2, Sem.run_bind, ni]; rfl) ?_
      refine g_as hn ?_
      refine fl_end ?_
      clear hn ni
      subst ha
      dsimp only [fr, cnd, Act.put, cond_true]
      simp only [List.setIfInBounds_toArray, List.set_cons_zero, List.set_cons_succ]
      go_wp2_with fail
      refine (widePut_any W0.heap.size A n c (rowTo L k) x 8 wr hP hB1.size (by omega) hxl (by decide) (by decide)).mono ?_
      rintro e w2 ⟨⟨A2, n2, c2, rfl, hO⟩, hb2, _⟩
      have HO : Hid (OwnB W0.heap.size w2 A2 n2 c2 (rowTo L (k + 1))) := by show OwnB _ _ _ _ _ _; rw [rowTo_next hx]; exact hO
      clear hO
      go_wp2_with fail
      refine ⟨?_, ?_⟩
      · first
        | exact ⟨k + 1, A2, n2, c2, by omega, rfl, by go_num, .inl HO.out, fun _ => HO.out.rd, hB1.trans hb2⟩
        | repeat apply Exists.intro
          refine ⟨?_, rfl⟩
          exact ⟨k + 1, A2, n2, c2, by omega, rfl, by go_num, .inl HO.out, fun _ => HO.out.rd, hB1.trans hb2⟩
      · simp [intOf]; omega
    · have hk16 : k = 16 := by omega
      subst hk16
      have i2 : ¬ ((16 : Nat) : Int) < 16 := by omega
      have i3 : ¬ (16 : Int) < 16 := by omega
      have hr := hR (by omega)
      clear hR
      have cD := dig_any A n c (rowTo L 16) wr (by rw [rowTo_len (by omega)]; omega) hr (by omega)
      have hX2 := hX0.keep hB1
      have hX3 := hX1.keep hB1
      have f0 := fbu0 wr b
      go_upto_region 7 with fail
      refine wp_region_lit ?_
      refine fl_start ?_
      generalize ha : Act.mk _ _ = a0
      have hn : a0.tmps.size = 19 := by rw [← ha]; kernel_rfl
      have h1 : (fr a0 []).eval (.tmp 1) = .pointer (some ⟨b, 0, none⟩) := by rw [← ha]; kernel_rfl
      refine fl_know hn rfl h1 ?_
      clear h1
      have h3 : (fr a0 [(1, true, .pointer (some ⟨b, 0, none⟩))]).eval (.tmp 3) = .slice A n c := by rw [← ha]; kernel_rfl
      refine fl_know hn rfl h3 ?_
      clear h3
      refine g_mv hn ?_
      refine g_c1x en_spinney_burl_Digest hn (R := fun v w2 => v = .int .u64 (rootL L : Nat) ∧ w2 = wr) (cD.mono fun _ _ ⟨he, hb2⟩ => ⟨_, he, rfl, hb2.symm⟩) ?_
      rintro v w2 ⟨rfl, hw2⟩
      rw [hw2]
      clear hw2
      refine g_fd hn ?_
      refine g_stt hX2 (hr := st_u (j := 0) hX2 (by rw [buC_size]; omega) (rootL L)) ?_
      intro w3 ho3 hX4
      rw [buC_set0] at hX4
      refine fl_end ?_
      clear hn cD f0
      subst ha
      dsimp only [fr, cnd, Act.put, cond_true]
      simp only [List.setIfInBounds_toArray, List.set_cons_zero, List.set_cons_succ]
      have hX5 := hX3.only ho3 (by omega)
      have l2 := ld_bu hX4 hl
      go_upto_region 8 with fail
      refine wp_region_lit ?_
      refine fl_start ?_
      generalize ha : Act.mk _ _ = a0
      have hn : a0.tmps.size = 19 := by rw [← ha]; kernel_rfl
      have h1 : (fr a0 []).eval (.tmp 1) = .pointer (some ⟨b, 0, none⟩) := by rw [← ha]; kernel_rfl
      refine fl_know hn rfl h1 ?_
      clear h1
      have h2 : (fr a0 [(1, true, .pointer (some ⟨b, 0, none⟩))]).eval (.tmp 2) = .pointer (some ⟨b + 1, 0, none⟩) := by rw [← ha]; kernel_rfl
      refine fl_know hn rfl h2 ?_
      clear h2
      refine g_ld hn ?_
      refine g_str (c := buC (rootL L) L) hX5 ?_ (hs := by rw [buC_size, hl]; rfl) (hi := by rw [buC_size, hl]; kernel_rfl) (h1 := bu_one _ _)
      intro w4 ho4 hX6
      refine fl_end ?_
      clear hn l2
      subst ha
      dsimp only [fr, cnd, Act.put, cond_true]
      simp only [List.setIfInBounds_toArray, List.set_cons_zero, List.set_cons_succ]
      go_wp2_with fail
      refine bodyPost_ret (results_cell_row Try.results38 _ _ (b + 1) 39 (buC (rootL L) L) (0, 0) _ (by rfl) hX6 Try.underlying39 (by rfl) (by rw [buC_size, hl]; kernel_rfl)) rfl ?_
      have g1 : Below b w wr := by
        have h := hB.size
        exact hB.trans (hB1.mono (by omega))
      have g2 := (g1.trans (ho3.below (Nat.le_refl _))).trans (ho4.below (by omega))
      exact ⟨rfl, by first | exact g2 | (rw [hb]; exact g2)⟩
end Go.Proofs.Ytokkmofcijfmiab

namespace Go.Proofs.Ytokkmofcijfmiab
open Go.RowKit

theorem run_apG {P : Program} (w : World) {t t' e' ty el : TypeId} {i : TypeInfo} {z y : Nat} {zv : Value} (ht : P.underlying t = some (.slice el)) (ht' : P.underlying t' = some (.slice e')) (hi : P.info? el = some i) (hz : i.zero = some zv) (hs : i.size = z) (hy : i.bytes = y) (hzs : zv.cells.size = z) (hz0 : 0 < z) (hy0 : y ≤ 1000)
    {base : Nat} {A : Option Addr} {ad : Addr} {n c d : Nat} {l : List (Array Value)} {x : Array Value} (hown : OwnX el z base w A n c l) (hx : x.size = z) (h1 : ∀ u ∈ x.toList, u.oneCell' = true) (hr : ∀ j v, x[j]? = some v → w.cell? (ad.add j) = some v) (hsz : n ≤ 1000000000) (hbase : base ≤ w.heap.size) :
    ∃ A' c' w', (Builtin.append_ #[t, t'] ty #[.slice A n c, .slice (some ad) 1 d]).run P w = .ok (.slice A' (n + 1) c') w' ∧ OwnX el z base w' A' (n + 1) c' (l ++ [x]) ∧ w.grownBy w' (A.map (·.block)) := by
  obtain ⟨v', w', hrun, h2, h3, _, _⟩ := run_append_own_at (P := P) w base t ty el i zv z y ht hi hz hs hy hzs hz0 (.slice A n c) n (celV l) hown.1 ad 1 d x.toList (by rw [Array.length_toList, hx, Nat.one_mul]) (fun j u hu => hr j u (by rw [← Array.getElem?_toList]; exact hu)) h1
    (by unfold maxLen; omega) (Nat.le_trans (Nat.mul_le_mul (show n + 1 ≤ 1000000001 by omega) hy0) (by omega)) hbase
  have hv : ∃ A' c', v' = .slice A' (n + 1) c' := by
    rcases h2.2 with ⟨_, e2⟩ | ⟨g, cap, cur, e1, _⟩
    · omega
    · exact ⟨_, _, e1⟩
  obtain ⟨A', c', rfl⟩ := hv
  refine ⟨A', c', w', by rw [run_append_tt w ht ht']; exact hrun, ⟨?_, ?_, ?_⟩, by cases A <;> exact h3⟩
  · rw [show celV (l ++ [x]) = celV l ++ x.toList by simp [celV]]
    exact h2
  · intro cs hc
    rcases List.mem_append.1 hc with h | h
    · exact hown.2.1 cs h
    · rw [List.mem_singleton.1 h]
      exact hx
  · rw [List.length_append, hown.2.2]
    rfl
/-! Two operations that may come up. -/
section
variable {P : Program} {l : List Oper} {Q : Exit → Act → World → Prop} {S : World → Prop} {fuel : Nat} {listed : Array Bool} {a0 : Act} {L : List (Nat × Bool × Value)} {w : World}
/-- An operation taken now, whatever it does. -/
def FHone (P : Program) (l : List Oper) (Q : Exit → Act → World → Prop) (S : World → Prop) (fuel : Nat) (listed : Array Bool) (a0 : Act) (L : List (Nat × Bool × Value)) (w : World) (i : Nat) : Prop :=
  (∀ p, p ∈ L → p.1 < a0.tmps.size) → wpOp P l.toArray Q i (fun a' w' => S w' ∧ wpAnyH P .any l.toArray Q S fuel (listed.setIfInBounds i true) a' w') (fr a0 L) w
theorem fh_two {i j : Nat} (hr : Region.ready .any l.toArray listed = [i, j]) (h1 : FHone P l Q S fuel listed a0 L w i) (h2 : FHone P l Q S fuel listed a0 L w j) : FH P l Q S (fuel + 1) listed a0 L w := by
  refine ⟨fun hk => wpAnyH_all hr (by simp) fun m hm => ?_⟩
  rcases List.mem_cons.1 hm with rfl | hm
  · exact h1 hk
  · have e : m = j := by simpa using hm
    subst e
    exact h2 hk
theorem one_valx {i : Nat} {oi : Oper} {d n : Nat} {v : Value} {w2 : World} (hn : a0.tmps.size = n) (ho : oi.dst = some d) (hx : (∀ p, p ∈ L → p.1 < a0.tmps.size) → (execOp (fr a0 L).eval oi).run P w = .ok (.value v) w2)
    (hS : S w2) (h : FH P l Q S fuel (listed.setIfInBounds i true) a0 ((d, true, v) :: L) w2) (hi : l.toArray[i]? = some oi) (hd : Nat.blt d n = true) (hw : wtG l L oi.guard = some true) : FHone P l Q S fuel listed a0 L w i := by
  intro hk
  unfold wpOp
  simp only [hi, wt_is hk hw, if_true]
  refine .inl ?_
  unfold Oper.wp
  rw [hx hk, Oper.upon_value, ho]
  exact ⟨hS, h.go (fun p hp => by
    rcases List.mem_cons.1 hp with e | e
    · rw [e, hn]; exact blt_lt hd
    · exact hk p e)⟩
end
theorem x_ap {P : Program} {w w2 : World} {i j : Nat} {ts : Array TypeId} {ty : TypeId} {d : Option Tmp} {p : String} {af : Array Edge} {gd : Option (Nat × Bool)} {ρ : Operand → Value} {vi vj v : Value} (h1 : ρ (.tmp i) = vi) (h2 : ρ (.tmp j) = vj) (hr : (Builtin.append_ ts ty #[vi, vj]).run P w = .ok v w2) :
    (execOp ρ ⟨d, .call { callee := .builtin .append, args := #[.tmp i, .tmp j], argTypes := ts }, ty, p, af, gd⟩).run P w = .ok (.value v) w2 := by
  unfold execOp
  simp only [resolve, invoke, builtin, Sem.run_bind, Sem.run_pure, Result.andThen_ok, List.map_toArray, List.map_cons, List.map_nil, h1, h2, hr]
theorem x_cp {P : Program} {w w2 : World} {i j : Nat} {ts : Array TypeId} {ty : TypeId} {d : Option Tmp} {p : String} {af : Array Edge} {gd : Option (Nat × Bool)} {ρ : Operand → Value} {vi vj v : Value} (h1 : ρ (.tmp i) = vi) (h2 : ρ (.tmp j) = vj) (hr : (Builtin.copy_ ts ty #[vi, vj]).run P w = .ok v w2) :
    (execOp ρ ⟨d, .call { callee := .builtin .copy, args := #[.tmp i, .tmp j], argTypes := ts }, ty, p, af, gd⟩).run P w = .ok (.value v) w2 := by
  unfold execOp
  simp only [resolve, invoke, builtin, Sem.run_bind, Sem.run_pure, Result.andThen_ok, List.map_toArray, List.map_cons, List.map_nil, h1, h2, hr]
end Go.Proofs.Ytokkmofcijfmiab

namespace Go.Proofs.Ytokkmofcijfmiab
open Go.RowKit

abbrev tCl : TypeId := 54
theorem cix (W : World) (ad : Addr) (n c k : Nat) (h : k < n) : (Instr.indexAt 22 (.slice (some ad) n c) (.int .i64 (k : Int))).run Try.prog W = .ok (.pointer (some (ad.add (k * 4)))) W := by
  have i1 : (0 : Int) ≤ (k : Int) := by omega
  have i2 : (k : Int) < (n : Int) := by omega
  go_simp
theorem cld {W : World} {ad : Addr} {k : Nat} {x : Cl} (hc : ∀ j v, x.cells[j]? = some v → W.cell? (ad.add (k * 4 + j)) = some v) : (Instr.loadAt tCl (.pointer (some (ad.add (k * 4))))).run Try.prog W = .ok (.agg x.cells) W := by
  obtain ⟨ky, kk, n, s⟩ := x
  obtain ⟨h0, h1⟩ := celX hc
  have c0 : W.cell? (ad.add (k * 4)) = some (.string ky) := h0 _ rfl
  have c1 : W.cell? ⟨(ad.add (k * 4)).block, (ad.add (k * 4)).off + 1, none⟩ = some (.int .i64 kk) := h1 0 _ rfl
  have c2 : W.cell? ⟨(ad.add (k * 4)).block, (ad.add (k * 4)).off + 2, none⟩ = some (.int .i64 n) := h1 1 _ rfl
  have c3 : W.cell? ⟨(ad.add (k * 4)).block, (ad.add (k * 4)).off + 3, none⟩ = some (.string s) := h1 2 _ rfl
  clear hc h0 h1
  go_simp
theorem cld_blk {W : World} {g : Nat} {x : Cl} {t : TypeId} (h : Blk W g x.cells t) : (Instr.loadAt tCl (.pointer (some ⟨g, 0, none⟩))).run Try.prog W = .ok (.agg x.cells) W := by
  have c0 := h.cell 0
  have c1 := h.cell 1
  have c2 := h.cell 2
  have c3 := h.cell 3
  clear h
  go_simp
theorem alC (w : World) : (Instr.alloc tCl true (.tuple #[])).run Try.prog w = .ok (.pointer (some ⟨w.heap.size, 0, none⟩)) (w.alloc (.cells (⟨⟨#[]⟩, 0, 0, ⟨#[]⟩⟩ : Cl).cells tCl)) := by kernel_rfl
theorem cl_oneC (x : Cl) : x.cells.all (·.oneCell') = true := by
  obtain ⟨ky, k, n, s⟩ := x
  show (clI ky k n s).all _ = true
  rw [show clI ky k n s = [.string ky, .int .i64 k, .int .i64 n, .string s].toArray from rfl, List.all_toArray]
  simp [Value.oneCell']
theorem fcl0 (W : World) (b : Nat) : (Instr.fieldAt tCl (.pointer (some ⟨b, 0, none⟩)) 0).run Try.prog W = .ok (.pointer (some ⟨b, 0, none⟩)) W := by kernel_rfl
theorem fcl1 (W : World) (b : Nat) : (Instr.fieldAt tCl (.pointer (some ⟨b, 0, none⟩)) 1).run Try.prog W = .ok (.pointer (some ⟨b, 1, none⟩)) W := by kernel_rfl
theorem ld_ky {W : World} {b : Nat} {x : Cl} {t : TypeId} (h : Blk W b x.cells t) : (Instr.loadAt 9 (.pointer (some ⟨b, 0, none⟩))).run Try.prog W = .ok (.string x.ky) W := by
  have c0 := h.cell 0
  clear h
  go_simp
theorem ld_cv {W : World} {b : Nat} {x : Cl} {t : TypeId} (h : Blk W b x.cells t) : (Instr.loadAt 31 (.pointer (some ⟨b, 1, none⟩))).run Try.prog W = .ok (.agg #[.int .i64 x.k, .int .i64 x.x, .string x.s]) W := by
  have c1 := h.cell 1
  have c2 := h.cell 2
  have c3 := h.cell 3
  clear h
  go_simp
theorem bel_un29 {b : Nat} {w w' : World} (h : Below b w.drew w') : Below b w w' := ⟨h.os, h.tape, h.output, h.size, h.block⟩
section
variable {P : Program} {l : List Oper} {Q : Exit → Act → World → Prop} {S : World → Prop} {fuel : Nat} {listed : Array Bool} {a0 : Act} {L : List (Nat × Bool × Value)} {w : World}
theorem one_val29 {i : Nat} {oi : Oper} {d n : Nat} {R : Value → World → Prop} (hn : a0.tmps.size = n) (hX : ∀ K : Act → World → Prop, (∀ v w2, R v w2 → K ((fr a0 L).put (some d) v) w2) → (∀ p, p ∈ L → p.1 < a0.tmps.size) → oi.wp P (fr a0 L) w K Q)
    (h : ∀ v w2, R v w2 → S w2 ∧ FH P l Q S fuel (listed.setIfInBounds i true) a0 ((d, true, v) :: L) w2) (hi : l.toArray[i]? = some oi) (hd : Nat.blt d n = true) (hw : wtG l L oi.guard = some true) : FHone P l Q S fuel listed a0 L w i := by
  intro hk
  unfold wpOp
  simp only [hi, wt_is hk hw, if_true]
  refine .inl (hX _ (fun v w2 hR => ?_) hk)
  obtain ⟨hs, hF⟩ := h v w2 hR
  exact ⟨hs, hF.go (fun p hp => by
    rcases List.mem_cons.1 hp with e | e
    · rw [e, hn]; exact blt_lt hd
    · exact hk p e)⟩
theorem one_callx29 {i : Nat} {oi : Oper} {d n : Nat} {R : Value → World → Prop} {f : FuncId} {args : Array Value} (hn : a0.tmps.size = n) (ho : oi.dst = some d) (hx : (∀ p, p ∈ L → p.1 < a0.tmps.size) → (execOp (fr a0 L).eval oi).run P w = .ok (.enter f args) w) (hc : Calls P f args w fun e w' => ∃ v, e = .returned v ∧ R v w')
    (h : ∀ v w2, R v w2 → S w2 ∧ FH P l Q S fuel (listed.setIfInBounds i true) a0 ((d, true, v) :: L) w2) (hi : l.toArray[i]? = some oi) (hd : Nat.blt d n = true) (hw : wtG l L oi.guard = some true) : FHone P l Q S fuel listed a0 L w i :=
  one_val29 hn (fun K hK hk => by
    unfold Oper.wp
    rw [hx hk, Oper.upon_enter]
    refine hc.mono ?_
    rintro e w' ⟨v, rfl, hR⟩
    show K ((fr a0 L).put oi.dst v) w'
    rw [ho]
    exact hK v w' hR) h hi hd hw
end
end Go.Proofs.Ytokkmofcijfmiab
