/-
  WHAT IS PROVED: the statement LetterKinds (spinneylaw08): a letter that has what its kind doesn't use isn't good, at each kind and each such thing. Condition: what the row lists is laid.
-/
import Derived.Test.YtpjleeeligahaaaGreatDoorGQ16
namespace Go.Proofs.YtpjleeeligahaaaGreatDoor
open Go.RowKit

/-- What a kind uses, by letters. -/
def usesK (m : Nat) : List UInt8 := match m with
  | 0 => [80, 82]
  | 1 => [80, 70, 83, 87]
  | 2 => [83, 84, 69, 87, 67]
  | _ => []
theorem ret_bool2 {a b : Bool} (h : a = b) : Ending.returned (.bool a) = .returned (.bool b) := by rw [h]
theorem goodLs_one {α : Type} {g : α → Bool} {lt : α → α → Bool} {x : α} (h : g x = true) : goodLs g lt [x] = true := goodLs_yes fun i hi => by
  have e : i = 0 := by simpa using hi
  subst e
  intro y hy
  simp at hy
  subst hy
  exact ⟨h, fun _ h0 => by omega⟩
abbrev lk0 (m : Nat) : Lt := ⟨1 + (m : Int), 0, 1, 1, 1, 5, 0, 0, 0, 0, 0, 0, false, [], [], [], [], 0, 0, 0, 0, 0, 0, 0, 0, 0, 0, 0, 0⟩
theorem lk0_good (m : Nat) (hm : m < 4) : goodLt (lk0 m) = (usesK m).any (· == 80) := by
  have ht : tailB (lk0 m) = true := tail_nil _ rfl rfl rfl rfl (by kernel_rfl)
  unfold goodLt
  rw [ht]
  match m, hm with
  | 0, _ => decide +kernel
  | 1, _ => decide +kernel
  | 2, _ => decide +kernel
  | 3, _ => decide +kernel
abbrev lk1 (m : Nat) : Lt := ⟨1 + (m : Int), 0, 1, 1, 1, 0, 0, 0, 0, 0, 0, 0, false, [⟨#[97]⟩], [], [], [], 0, 0, 0, 0, 0, 0, 0, 0, 0, 0, 0, 0⟩
theorem lk1_good (m : Nat) (hm : m < 4) : goodLt (lk1 m) = (usesK m).any (· == 82) := by
  have ht : tailB (lk1 m) = true := by
    unfold tailB goodLns goodCls
    rw [goodLs_nil, goodLs_nil]
    kernel_rfl
  unfold goodLt
  rw [ht]
  match m, hm with
  | 0, _ => decide +kernel
  | 1, _ => decide +kernel
  | 2, _ => decide +kernel
  | 3, _ => decide +kernel
abbrev lk2 (m : Nat) : Lt := ⟨1 + (m : Int), 0, 1, 1, 1, 0, 0, 5, 0, 0, 0, 0, false, [], [], [], [], 0, 0, 0, 0, 0, 0, 0, 0, 0, 0, 0, 0⟩
theorem lk2_good (m : Nat) (hm : m < 4) : goodLt (lk2 m) = (usesK m).any (· == 70) := by
  have ht : tailB (lk2 m) = true := tail_nil _ rfl rfl rfl rfl (by kernel_rfl)
  unfold goodLt
  rw [ht]
  match m, hm with
  | 0, _ => decide +kernel
  | 1, _ => decide +kernel
  | 2, _ => decide +kernel
  | 3, _ => decide +kernel
abbrev lk3 (m : Nat) : Lt := ⟨1 + (m : Int), 0, 1, 1, 1, 0, 0, 0, 5, 0, 0, 0, false, [], [], [], [], 0, 0, 0, 0, 0, 0, 0, 0, 0, 0, 0, 0⟩
theorem lk3_good (m : Nat) (hm : m < 4) : goodLt (lk3 m) = (usesK m).any (· == 83) := by
  have ht : tailB (lk3 m) = true := tail_nil _ rfl rfl rfl rfl (by kernel_rfl)
  unfold goodLt
  rw [ht]
  match m, hm with
  | 0, _ => decide +kernel
  | 1, _ => decide +kernel
  | 2, _ => decide +kernel
  | 3, _ => decide +kernel
abbrev lk4 (m : Nat) : Lt := ⟨1 + (m : Int), 0, 1, 1, 1, 0, 0, 0, 0, 0, 0, 0, false, [], [(⟨1, 1, 2, ⟨#[107]⟩, 0, 0, ⟨#[]⟩, 0, 0, ⟨#[]⟩⟩ : Wr)], [], [], 0, 0, 0, 0, 0, 0, 0, 0, 0, 0, 0, 0⟩
theorem lk4_good (m : Nat) (hm : m < 4) : goodLt (lk4 m) = (usesK m).any (· == 87) := by
  have ht : tailB (lk4 m) = true := by
    unfold tailB goodLns goodCls
    rw [goodLs_nil, goodLs_nil]
    kernel_rfl
  unfold goodLt
  rw [ht]
  match m, hm with
  | 0, _ => decide +kernel
  | 1, _ => decide +kernel
  | 2, _ => decide +kernel
  | 3, _ => decide +kernel
abbrev lk5 (m : Nat) : Lt := ⟨1 + (m : Int), 0, 1, 1, 1, 0, 0, 0, 0, 5, 0, 0, false, [], [], [], [], 0, 0, 0, 0, 0, 0, 0, 0, 0, 0, 0, 0⟩
theorem lk5_good (m : Nat) (hm : m < 4) : goodLt (lk5 m) = (usesK m).any (· == 84) := by
  have ht : tailB (lk5 m) = true := tail_nil _ rfl rfl rfl rfl (by kernel_rfl)
  unfold goodLt
  rw [ht]
  match m, hm with
  | 0, _ => decide +kernel
  | 1, _ => decide +kernel
  | 2, _ => decide +kernel
  | 3, _ => decide +kernel
abbrev lk6 (m : Nat) : Lt := ⟨1 + (m : Int), 0, 1, 1, 1, 0, 0, 0, 0, 0, 0, 5, false, [], [], [], [], 0, 0, 0, 0, 0, 0, 0, 0, 0, 0, 0, 0⟩
theorem lk6_good (m : Nat) (hm : m < 4) : goodLt (lk6 m) = (usesK m).any (· == 69) := by
  have ht : tailB (lk6 m) = true := tail_nil _ rfl rfl rfl rfl (by kernel_rfl)
  unfold goodLt
  rw [ht]
  match m, hm with
  | 0, _ => decide +kernel
  | 1, _ => decide +kernel
  | 2, _ => decide +kernel
  | 3, _ => decide +kernel
abbrev lk7 (m : Nat) : Lt := ⟨1 + (m : Int), 0, 1, 1, 1, 0, 0, 0, 0, 0, 0, 0, true, [], [], [], [(⟨⟨#[97]⟩, 1, 0, ⟨#[]⟩⟩ : Cl)], 0, 0, 0, 0, 0, 0, 0, 0, 0, 0, 0, 0⟩
theorem lk7_good (m : Nat) (hm : m < 4) : goodLt (lk7 m) = (usesK m).any (· == 67) := by
  have ht : tailB (lk7 m) = true := by
    unfold tailB goodLns goodCls
    rw [goodLs_nil, goodLs_one (by kernel_rfl)]
    kernel_rfl
  unfold goodLt
  rw [ht]
  match m, hm with
  | 0, _ => decide +kernel
  | 1, _ => decide +kernel
  | 2, _ => decide +kernel
  | 3, _ => decide +kernel

theorem take_eq {l : List UInt8} {c x : UInt8} {k : Nat} (h : l[k]? = some x) : ((l.take k).any (· == c) || (x == c)) = (l.take (k + 1)).any (· == c) := by
  rw [List.take_add_one, h]
  simp
abbrev usesV : Value := .agg #[.string ⟨#[]⟩, .string ⟨#[80, 82]⟩, .string ⟨#[80, 70, 83, 87]⟩, .string ⟨#[83, 84, 69, 87, 67]⟩, .string ⟨#[]⟩]
theorem uses_0 (W : World) : (Instr.index 59 usesV (.int .i64 1)).run Tryz.prog W = .ok (.string ⟨#[80, 82]⟩) W := by kernel_rfl
theorem uses_1 (W : World) : (Instr.index 59 usesV (.int .i64 2)).run Tryz.prog W = .ok (.string ⟨#[80, 70, 83, 87]⟩) W := by kernel_rfl
theorem uses_2 (W : World) : (Instr.index 59 usesV (.int .i64 3)).run Tryz.prog W = .ok (.string ⟨#[83, 84, 69, 87, 67]⟩) W := by kernel_rfl
theorem uses_3 (W : World) : (Instr.index 59 usesV (.int .i64 4)).run Tryz.prog W = .ok (.string ⟨#[]⟩) W := by kernel_rfl
theorem uses_run (m : Nat) (hm : m < 4) (W : World) : (Instr.index 59 usesV (.int .i64 (1 + (m : Int)))).run Tryz.prog W = .ok (.string ⟨(usesK m).toArray⟩) W := by
  have h4 : m = 0 ∨ m = 1 ∨ m = 2 ∨ m = 3 := by omega
  rcases h4 with rfl | rfl | rfl | rfl
  · exact uses_0 W
  · exact uses_1 W
  · exact uses_2 W
  · exact uses_3 W
theorem uses_len (m : Nat) : (usesK m).length ≤ 5 := by
  unfold usesK
  split <;> decide
theorem uses_sz (m : Nat) : (⟨(usesK m).toArray⟩ : ByteArray).size = (usesK m).length := by
  show (usesK m).toArray.size = _
  simp
theorem str_at (us : List UInt8) (k : Nat) (x : UInt8) (W : World) (h : us[k]? = some x) : (Instr.index 9 (.string ⟨us.toArray⟩) (.int .i64 (k : Int))).run Tryz.prog W = .ok (.int .u8 (x.toNat : Int)) W := by
  have hk : k < us.length := (List.getElem?_eq_some_iff.1 h).1
  have hz : (⟨us.toArray⟩ : ByteArray).size = us.length := by show us.toArray.size = _; simp
  have i1 : (0 : Int) ≤ (k : Int) := by omega
  have i2 : (k : Int) < ((⟨us.toArray⟩ : ByteArray).size : Int) := by omega
  have hx : us.toArray[k]? = some x := by simpa using h
  obtain ⟨h1, h2⟩ := Array.getElem?_eq_some_iff.1 hx
  go_simp
  exact congrArg (fun u : UInt8 => (u.toNat : Int)) h2
theorem one_0 (W : World) : (Instr.index 9 (.string ⟨#[80, 82, 70, 83, 87, 84, 69, 67]⟩) (.int .u8 0)).run Tryz.prog W = .ok (.int .u8 80) W := by kernel_rfl
theorem one_1 (W : World) : (Instr.index 9 (.string ⟨#[80, 82, 70, 83, 87, 84, 69, 67]⟩) (.int .u8 1)).run Tryz.prog W = .ok (.int .u8 82) W := by kernel_rfl
theorem one_2 (W : World) : (Instr.index 9 (.string ⟨#[80, 82, 70, 83, 87, 84, 69, 67]⟩) (.int .u8 2)).run Tryz.prog W = .ok (.int .u8 70) W := by kernel_rfl
theorem one_3 (W : World) : (Instr.index 9 (.string ⟨#[80, 82, 70, 83, 87, 84, 69, 67]⟩) (.int .u8 3)).run Tryz.prog W = .ok (.int .u8 83) W := by kernel_rfl
theorem one_4 (W : World) : (Instr.index 9 (.string ⟨#[80, 82, 70, 83, 87, 84, 69, 67]⟩) (.int .u8 4)).run Tryz.prog W = .ok (.int .u8 87) W := by kernel_rfl
theorem one_5 (W : World) : (Instr.index 9 (.string ⟨#[80, 82, 70, 83, 87, 84, 69, 67]⟩) (.int .u8 5)).run Tryz.prog W = .ok (.int .u8 84) W := by kernel_rfl
theorem one_6 (W : World) : (Instr.index 9 (.string ⟨#[80, 82, 70, 83, 87, 84, 69, 67]⟩) (.int .u8 6)).run Tryz.prog W = .ok (.int .u8 69) W := by kernel_rfl
theorem one_7 (W : World) : (Instr.index 9 (.string ⟨#[80, 82, 70, 83, 87, 84, 69, 67]⟩) (.int .u8 7)).run Tryz.prog W = .ok (.int .u8 67) W := by kernel_rfl
theorem st_kR {W : World} {b j : Nat} {cs : Array Value} {T : TypeId} (hX : Blk W b cs T) (hj : j < cs.size) (A : Option Addr) (n c : Nat) : (Instr.storeAt 53 (.pointer (some ⟨b, j, none⟩)) (.slice A n c)).run Tryz.prog W = .ok () (W.setCell ⟨b, j, none⟩ (.slice A n c)) := by
  obtain ⟨u, hu⟩ := blk_some hX hj
  have hf := hX.free j
  clear hX
  go_simp
theorem st_kW {W : World} {b j : Nat} {cs : Array Value} {T : TypeId} (hX : Blk W b cs T) (hj : j < cs.size) (A : Option Addr) (n c : Nat) : (Instr.storeAt 37 (.pointer (some ⟨b, j, none⟩)) (.slice A n c)).run Tryz.prog W = .ok () (W.setCell ⟨b, j, none⟩ (.slice A n c)) := by
  obtain ⟨u, hu⟩ := blk_some hX hj
  have hf := hX.free j
  clear hX
  go_simp
theorem st_kC {W : World} {b j : Nat} {cs : Array Value} {T : TypeId} (hX : Blk W b cs T) (hj : j < cs.size) (A : Option Addr) (n c : Nat) : (Instr.storeAt 54 (.pointer (some ⟨b, j, none⟩)) (.slice A n c)).run Tryz.prog W = .ok () (W.setCell ⟨b, j, none⟩ (.slice A n c)) := by
  obtain ⟨u, hu⟩ := blk_some hX hj
  have hf := hX.free j
  clear hX
  go_simp
theorem ld_wr {W : World} {c : Nat} {y : Wr} (hY : Blk W c y.cells 47) : (Instr.loadAt 47 (.pointer (some ⟨c, 0, none⟩))).run Tryz.prog W = .ok (.agg y.cells) W :=
  run_loadAt_mid W c 0 _ y.cells.toList _ (fun j v hv => by rw [Nat.zero_add, hY.cell j]; exact (Array.getElem?_toList ..).symm.trans hv) Tryz.underlying47 rfl (by kernel_rfl)
abbrev hnk1 (g : Nat) : Hn := ⟨some ⟨g, 0, none⟩, none, none, none, 1, 1, 0, 0, 0, 0, 0, 0⟩
abbrev hnk4 (g : Nat) : Hn := ⟨none, some ⟨g, 0, none⟩, none, none, 0, 0, 1, 1, 0, 0, 0, 0⟩
abbrev hnk7 (g : Nat) : Hn := ⟨none, none, none, some ⟨g, 0, none⟩, 0, 0, 0, 0, 0, 0, 1, 1⟩
theorem one_get {α : Type} {a x : α} {k : Nat} (h : [a][k]? = some x) : k = 0 ∧ x = a := by
  match k, h with
  | 0, h => exact ⟨rfl, by simpa using h.symm⟩
  | (n + 1), h => simp at h
theorem ltR_1 (m : Nat) {W : World} {g : Nat} {t : TypeId} (hZ : Blk W g #[.string ⟨#[97]⟩] t) : LtR W.heap.size W (lk1 m) (hnk1 g) := by
  refine ⟨rfl, fun k x hk => ?_, rfl, RdW.nil _ _ _, rfl, RdX.nil _ _ _ _, rfl, RdX.nil _ _ _ _⟩
  obtain ⟨rfl, rfl⟩ := one_get hk
  exact ⟨_, rfl, hZ.lt, by rw [Addr.add_mid]; exact hZ.cell 0⟩
theorem lm0 : 0 ≤ maxLen := Nat.zero_le _
theorem lm1 : 1 ≤ maxLen := by decide
theorem ltF_1 (m : Nat) : LtF (lk1 m) := ⟨by
    intro s hs
    have : s = ⟨#[97]⟩ := by simpa using hs
    subst this
    decide, fun s hs => by simp at hs, fun s hs => by simp at hs, fun s hs => by simp at hs, lm1, lm0, lm0, lm0⟩
theorem ltR_4 (m : Nat) {W : World} {g : Nat} {t : TypeId} (hZ : Blk W g ((⟨1, 1, 2, ⟨#[107]⟩, 0, 0, ⟨#[]⟩, 0, 0, ⟨#[]⟩⟩ : Wr)).cells t) : LtR W.heap.size W (lk4 m) (hnk4 g) := by
  refine ⟨rfl, RdS.nil _ _ _, rfl, fun k x hk => ?_, rfl, RdX.nil _ _ _ _, rfl, RdX.nil _ _ _ _⟩
  obtain ⟨rfl, rfl⟩ := one_get hk
  exact ⟨_, rfl, hZ.lt, fun j v hv => by rw [Addr.add_mid, Nat.zero_add, Nat.zero_mul, Nat.zero_add]; exact (hZ.cell j).trans hv⟩
theorem ltF_4 (m : Nat) : LtF (lk4 m) := ⟨fun s hs => by simp at hs, by
    intro s hs
    have : s = (⟨1, 1, 2, ⟨#[107]⟩, 0, 0, ⟨#[]⟩, 0, 0, ⟨#[]⟩⟩ : Wr) := by simpa using hs
    subst this
    refine ⟨?_, ?_, ?_, ?_, ?_⟩ <;> decide, fun s hs => by simp at hs, fun s hs => by simp at hs, lm0, lm1, lm0, lm0⟩
theorem ltR_7 (m : Nat) {W : World} {g : Nat} {t : TypeId} (hZ : Blk W g ((⟨⟨#[97]⟩, 1, 0, ⟨#[]⟩⟩ : Cl)).cells t) : LtR W.heap.size W (lk7 m) (hnk7 g) := by
  refine ⟨rfl, RdS.nil _ _ _, rfl, RdW.nil _ _ _, rfl, RdX.nil _ _ _ _, rfl, fun k cs hk => ?_⟩
  obtain ⟨rfl, rfl⟩ := one_get hk
  exact ⟨_, rfl, hZ.lt, fun j v hv => by rw [Addr.add_mid, Nat.zero_add, Nat.zero_mul, Nat.zero_add]; exact (hZ.cell j).trans hv⟩
theorem ltF_7 (m : Nat) : LtF (lk7 m) := ⟨fun s hs => by simp at hs, fun s hs => by simp at hs, fun s hs => by simp at hs, by
    intro s hs
    have : s = (⟨⟨#[97]⟩, 1, 0, ⟨#[]⟩⟩ : Cl) := by simpa using hs
    subst this
    refine ⟨?_, ?_, ?_, ?_⟩ <;> decide, lm0, lm0, lm0, lm1⟩
theorem enters_lk : ∀ args w, (callFunc 4 args).run Tryz.prog w = .ok (.enter 4 args) w := enters_of Tryz.func4 (by kernel_rfl) rfl

set_option maxRecDepth 100000 in
set_option maxHeartbeats 8000000 in
theorem lawKinds_any (kind f : Int) (w : World) (hL : LaidF w) (hf0 : 0 ≤ f) : Calls Tryz.prog 4 #[.int .i64 kind, .int .u8 f] w fun e w' => e = .returned (.bool true) ∧ Below w.heap.size w w' := by
  have HA := Lib.hid (awake8_any w hL)
  obtain ⟨m, hm, hmk⟩ : ∃ m : Nat, m < 4 ∧ IntKind.u64.wrap kind % 4 = (m : Int) := ⟨(IntKind.u64.wrap kind % 4).toNat, by omega, by omega⟩
  have hwk : 0 ≤ IntKind.u64.wrap kind := by unfold IntKind.wrap; simp [IntKind.bits, IntKind.signed]; omega
  have cvA : ∀ W, (convert 3 51 (.int .i64 kind)).run Tryz.prog W = .ok (.int .u64 (IntKind.u64.wrap kind)) W := fun W => by go_simp
  generalize IntKind.u64.wrap kind = u at cvA hmk hwk
  have cvR : ∀ W, ((do eqGuard .rem 51 (.tmp 14) (.const (.int .u64 4)) (.int .u64 u) (.int .u64 4); binOp .rem 51 (.int .u64 u) (.int .u64 4)) : Sem Value).run Tryz.prog W = .ok (.int .u64 (m : Int)) W := fun W => by
    have e1 : u.tmod 4 = (m : Int) := by rw [Int.tmod_eq_emod_of_nonneg hwk, hmk]
    have e2 : IntKind.u64.wrap (m : Int) = (m : Int) := by unfold IntKind.wrap; simp [IntKind.bits, IntKind.signed]; omega
    go_simp
  have cvB : ∀ W, (convert 51 3 (.int .u64 (m : Int))).run Tryz.prog W = .ok (.int .i64 (m : Int)) W := fun W => by
    have e2 : IntKind.i64.wrap (m : Int) = (m : Int) := by unfold IntKind.wrap; simp [IntKind.bits, IntKind.signed]; omega
    go_simp
  have cvC : ∀ W, ((do eqGuard .add 3 (.const (.int .i64 1)) (.tmp 16) (.int .i64 1) (.int .i64 (m : Int)); binOp .add 3 (.int .i64 1) (.int .i64 (m : Int))) : Sem Value).run Tryz.prog W = .ok (.int .i64 (1 + (m : Int))) W := fun W => by
    have e2 : IntKind.i64.wrap (1 + (m : Int)) = 1 + (m : Int) := by unfold IntKind.wrap; simp [IntKind.bits, IntKind.signed]; omega
    go_simp
  have HM := Lib.hid hm
  clear hmk hwk hm
  go_enter Tryz.func4, Tryz.ntmps4
  go_upto_region 3 with (refine HA.out.mono ?_; rintro e w1 ⟨rfl, hb1⟩)
  have cA := cvA w1
  have cR := cvR w1
  have cB := cvB w1
  have cC := cvC w1
  clear cvA cvR cvB cvC HA
  refine wp_region_lit ?_
  refine fl_start ?_
  generalize ha : Act.mk _ _ = a0
  have hn : a0.tmps.size = 79 := by rw [← ha]; kernel_rfl
  have h0 : (fr a0 []).eval (.tmp 0) = .int .i64 kind := by rw [← ha]; kernel_rfl
  refine fl_know hn rfl h0 ?_
  clear h0
  have h1 : (fr a0 [(0, true, .int .i64 kind)]).eval (.tmp 1) = .int .u8 f := by rw [← ha]; kernel_rfl
  refine fl_know hn rfl h1 ?_
  clear h1
  refine g_mv hn ?_
  refine g_cv hn ?_
  refine g_bc hn ?_
  refine g_cv hn ?_
  refine g_o1 (i := 16) (vi := .int .i64 (m : Int)) (v := .int .i64 (1 + (m : Int))) hn (fun ρ h1 hc => by unfold execOp; dsimp only; rw [h1, hc, Sem.run_bind, cC]; rfl) ?_
  refine g_bd hn ?_ (qs := #[(0, .int .i64 (1 + (m : Int))), (2, .int .i64 1), (3, .int .i64 1), (4, .int .i64 1)]) (v := .agg (ltI ⟨1 + (m : Int), 0, 1, 1, 1, 0, 0, 0, 0, 0, 0, 0, false, [], [], [], [], 0, 0, 0, 0, 0, 0, 0, 0, 0, 0, 0, 0⟩ hn0)) (hx := by kernel_rfl) (hp := fun hk _ => by simp only [List.map_toArray, List.map_cons, List.map_nil, lk_at hk (i := 17) rfl (fun _ => rfl) rfl]; rfl)
  refine g_w hn (w2 := w1.alloc (.cells ltZ 58)) (v := .pointer (some ⟨w1.heap.size, 0, none⟩)) (fun _ => by kernel_rfl) ?_
  have hX0 := blk_new w1 ltZ 58
  have hB1 := bt hb1 (b0 w1 (.cells ltZ 58))
  generalize w1.alloc (.cells ltZ 58) = w2 at hX0 hB1 ⊢
  have hlb : w.heap.size ≤ w1.heap.size := hb1.size
  generalize w1.heap.size = b at hX0 hlb ⊢
  refine g_str hX0 ?_ (h1 := lt_one _ _)
  intro w3 ho3 hX3
  refine fl_end ?_
  clear hn cA cR cB cC
  subst ha
  dsimp only [fr, cnd, Act.put, cond_true]
  simp only [List.setIfInBounds_toArray, List.set_cons_zero, List.set_cons_succ]
  have hB3 := hB1.trans (ho3.below hlb)
  clear hX0 hB1 hb1 ho3
  go_upto_region 4 with fail
  refine wp_region_lit ?_
  refine fl_start ?_
  generalize ha : Act.mk _ _ = a0
  have hn : a0.tmps.size = 79 := by rw [← ha]; kernel_rfl
  have h1 : (fr a0 []).eval (.tmp 1) = .int .u8 f := by rw [← ha]; kernel_rfl
  refine fl_know hn rfl h1 ?_
  clear h1
  have h5 : (fr a0 [(1, true, .int .u8 f)]).eval (.tmp 5) = .pointer (some ⟨b, 0, none⟩) := by rw [← ha]; kernel_rfl
  refine fl_know hn rfl h5 ?_
  clear h5
  refine g_bd hn ?_ (qs := #[(0, .int .i64 1), (1, .int .i64 1)]) (v := .agg #[.int .i64 1, .int .i64 1]) (hx := by kernel_rfl)
  refine g_bd hn ?_ (qs := #[(0, .int .i64 2), (1, .string ⟨#[107]⟩)]) (v := .agg #[.int .i64 2, .string ⟨#[107]⟩, .int .i64 0, .int .i64 0, .string ⟨#[]⟩, .int .i64 0, .int .i64 0, .string ⟨#[]⟩]) (hx := by kernel_rfl)
  refine g_bd hn ?_ (qs := #[(0, .agg #[.int .i64 1, .int .i64 1]), (1, .agg #[.int .i64 2, .string ⟨#[107]⟩, .int .i64 0, .int .i64 0, .string ⟨#[]⟩, .int .i64 0, .int .i64 0, .string ⟨#[]⟩])]) (v := .agg ((⟨1, 1, 2, ⟨#[107]⟩, 0, 0, ⟨#[]⟩, 0, 0, ⟨#[]⟩⟩ : Wr)).cells) (hx := by kernel_rfl) (hp := fun hk _ => by simp only [List.map_toArray, List.map_cons, List.map_nil, lk_at hk (i := 19) rfl (fun _ => rfl) rfl, lk_at hk (i := 20) rfl (fun _ => rfl) rfl])
  refine g_w hn (w2 := w3.alloc (.cells (wrI 0 0 0 ⟨#[]⟩ 0 0 ⟨#[]⟩ 0 0 ⟨#[]⟩) 47)) (v := .pointer (some ⟨w3.heap.size, 0, none⟩)) (fun _ => by kernel_rfl) ?_
  have hY0 := blk_new w3 (wrI 0 0 0 ⟨#[]⟩ 0 0 ⟨#[]⟩ 0 0 ⟨#[]⟩) 47
  have hX4 := hX3.alloc (.cells (wrI 0 0 0 ⟨#[]⟩ 0 0 ⟨#[]⟩ 0 0 ⟨#[]⟩) 47)
  have hB4 := bt hB3 (b0 w3 (.cells (wrI 0 0 0 ⟨#[]⟩ 0 0 ⟨#[]⟩ 0 0 ⟨#[]⟩) 47))
  have hbc : b < w3.heap.size := hX3.lt
  have hwc : w.heap.size ≤ w3.heap.size := hB3.size
  generalize w3.alloc (.cells (wrI 0 0 0 ⟨#[]⟩ 0 0 ⟨#[]⟩ 0 0 ⟨#[]⟩) 47) = w4 at hY0 hX4 hB4 ⊢
  generalize w3.heap.size = c at hY0 hbc hwc ⊢
  refine g_str hY0 ?_ (h1 := Array.all_eq_true_iff_forall_mem.2 (fun u hu => wr_one (⟨1, 1, 2, ⟨#[107]⟩, 0, 0, ⟨#[]⟩, 0, 0, ⟨#[]⟩⟩ : Wr) u (by simpa using hu)))
  intro w5 ho5 hY5
  refine fl_end ?_
  clear hn
  subst ha
  dsimp only [fr, cnd, Act.put, cond_true]
  simp only [List.setIfInBounds_toArray, List.set_cons_zero, List.set_cons_succ]
  have HX := Lib.hid (hX4.only ho5 (by omega))
  have hB5 := hB4.trans (ho5.below hwc)
  clear hX4 hX3 hB4 hB3 ho5 hY0
  go_upto_region 5 with fail
  refine wp_region_lit ?_
  refine fl_start ?_
  generalize ha : Act.mk _ _ = a0
  have hn : a0.tmps.size = 79 := by rw [← ha]; kernel_rfl
  have h1 : (fr a0 []).eval (.tmp 1) = .int .u8 f := by rw [← ha]; kernel_rfl
  refine fl_know hn rfl h1 ?_
  clear h1
  have h5 : (fr a0 [(1, true, .int .u8 f)]).eval (.tmp 5) = .pointer (some ⟨b, 0, none⟩) := by rw [← ha]; kernel_rfl
  refine fl_know hn rfl h5 ?_
  clear h5
  have h6 : (fr a0 [(5, true, .pointer (some ⟨b, 0, none⟩)), (1, true, .int .u8 f)]).eval (.tmp 6) = .pointer (some ⟨c, 0, none⟩) := by rw [← ha]; kernel_rfl
  refine fl_know hn rfl h6 ?_
  clear h6
  refine g_bd hn ?_ (qs := #[(0, .string ⟨#[]⟩), (1, .string ⟨#[80, 82]⟩), (2, .string ⟨#[80, 70, 83, 87]⟩), (3, .string ⟨#[83, 84, 69, 87, 67]⟩), (4, .string ⟨#[]⟩)]) (v := usesV) (hx := by kernel_rfl)
  refine g_fdL hn ?_
  refine g_ldL hn HX.out ?_
  refine g_o2 (i := 22) (j := 24) (vi := usesV) (vj := .int .i64 (1 + (m : Int))) (v := .string ⟨(usesK m).toArray⟩) hn (fun ρ h1 h2 hc => by unfold execOp; dsimp only; rw [h1, h2, Sem.run_bind, uses_run m HM.out]; rfl) ?_
  refine g_as hn ?_
  refine fl_end ?_
  clear hn
  subst ha
  dsimp only [fr, cnd, Act.put, cond_true]
  simp only [List.setIfInBounds_toArray, List.set_cons_zero, List.set_cons_succ]
  obtain ⟨j, hj, hjf⟩ : ∃ j : Nat, j < 8 ∧ f % 8 = (j : Int) := ⟨(f % 8).toNat, by omega, by omega⟩
  have hft : f.tmod 8 = (j : Int) := by rw [Int.tmod_eq_emod_of_nonneg hf0, hjf]
  have HU := Lib.hid (uses_sz m)
  have H5 := Lib.hid (uses_len m)
  have HI := Lib.hid (fun k x (h : (usesK m)[k]? = some x) W => str_at (usesK m) k x W h)
  have HG0 := Lib.hid (lk0_good m HM.out)
  have HG1 := Lib.hid (lk1_good m HM.out)
  have HG2 := Lib.hid (lk2_good m HM.out)
  have HG3 := Lib.hid (lk3_good m HM.out)
  have HG4 := Lib.hid (lk4_good m HM.out)
  have HG5 := Lib.hid (lk5_good m HM.out)
  have HG6 := Lib.hid (lk6_good m HM.out)
  have HG7 := Lib.hid (lk7_good m HM.out)
  have HB5 := Lib.hid hB5
  clear hjf hf0 hB5
  generalize hS : (⟨(usesK m).toArray⟩ : ByteArray) = S at HU HI
  generalize usesK m = us at HU H5 HI HG0 HG1 HG2 HG3 HG4 HG5 HG6 HG7
  have h8 : j = 0 ∨ j = 1 ∨ j = 2 ∨ j = 3 ∨ j = 4 ∨ j = 5 ∨ j = 6 ∨ j = 7 := by omega
  clear hj
  rcases h8 with rfl | rfl | rfl | rfl | rfl | rfl | rfl | rfl
  · have c8 : ((do eqGuard .rem 5 (.tmp 26) (.const (.int .u8 8)) (.int .u8 f) (.int .u8 8); binOp .rem 5 (.int .u8 f) (.int .u8 8)) : Sem Value).run Tryz.prog w5 = .ok (.int .u8 0) w5 := by
      have e1 : f.tmod 8 = 0 := hft
      go_simp
    go_upto_region 6 with fail
    refine wp_region_lit ?_
    refine fl_start ?_
    generalize ha : Act.mk _ _ = a0
    have hn : a0.tmps.size = 79 := by rw [← ha]; kernel_rfl
    have h1 : (fr a0 []).eval (.tmp 1) = .int .u8 f := by rw [← ha]; kernel_rfl
    refine fl_know hn rfl h1 ?_
    clear h1
    refine g_mv hn ?_
    refine g_bc hn ?_
    refine g_o1 (i := 27) (vi := .int .u8 0) (v := .int .u8 80) hn (fun ρ h1 hc => by unfold execOp; dsimp only; rw [h1, hc, Sem.run_bind, one_0]; rfl) ?_
    refine g_as hn ?_
    refine fl_end ?_
    clear hn c8
    subst ha
    dsimp only [fr, cnd, Act.put, cond_true]
    simp only [List.setIfInBounds_toArray, List.set_cons_zero, List.set_cons_succ]
    go_upto_region 9 with fail
    refine wp_region_lit ?_
    refine fl_start ?_
    generalize ha : Act.mk _ _ = a0
    have hn : a0.tmps.size = 79 := by rw [← ha]; kernel_rfl
    have h5 : (fr a0 []).eval (.tmp 5) = .pointer (some ⟨b, 0, none⟩) := by rw [← ha]; kernel_rfl
    refine fl_know hn rfl h5 ?_
    clear h5
    have h6 : (fr a0 [(5, true, .pointer (some ⟨b, 0, none⟩))]).eval (.tmp 6) = .pointer (some ⟨c, 0, none⟩) := by rw [← ha]; kernel_rfl
    refine fl_know hn rfl h6 ?_
    clear h6
    refine g_fdL hn ?_
    refine g_stc HX.out (st_int (j := 5) HX.out (by simp) 5) ?_
    intro w6 ho hX6
    simp only [List.setIfInBounds_toArray, List.set_cons_zero, List.set_cons_succ] at hX6
    have HX6 : Hid (Blk w6 b (ltI (lk0 m) hn0) 58) := hX6
    have hR6 := ltR_nil w6.heap.size w6 (lk0 m) rfl rfl rfl rfl
    have hF6 := ltF_nil (lk0 m) rfl rfl rfl rfl
    have hB6 := HB5.out.trans (ho.below hlb)
    refine fl_end ?_
    clear hn
    subst ha
    dsimp only [fr, cnd, Act.put, cond_true]
    simp only [List.setIfInBounds_toArray, List.set_cons_zero, List.set_cons_succ]
    have HR := Lib.hid hR6
    have HF := Lib.hid hF6
    have HB := Lib.hid hB6
    have HGj := HG0.out
    clear HX hB6 hR6 hF6 hX6 ho
    go_upto_region 26 with fail
    go_wp2_with fail
    go_loopw [9, 10, 63] (fun v _ i wr => ∃ k : Nat, k ≤ us.length ∧ i = .int .i64 k ∧ v = .bool ((us.take k).any (· == 80)) ∧ wr = w6) (fun _ _ i _ => us.length - (intOf i).toNat)
    case atStart => exact ⟨0, Nat.zero_le _, rfl, rfl, rfl⟩
    case round =>
      obtain ⟨k, hk, rfl, rfl, rfl⟩ := hrel
      have hsz := HU.out
      have hu5 := H5.out
      by_cases hlt : k < us.length
      · obtain ⟨x, hx⟩ : ∃ x, us[k]? = some x := ⟨_, List.getElem?_eq_getElem hlt⟩
        have i2 : (k : Int) < (S.size : Int) := by omega
        have HT := Lib.hid (take_eq (c := 80) hx)
        have hix := HI.out k x hx wr
        have ceq : ((do eqGuard .eql 5 (.tmp 70) (.tmp 71) (.int .u8 (x.toNat : Int)) (.int .u8 80); binOp .eql 5 (.int .u8 (x.toNat : Int)) (.int .u8 80)) : Sem Value).run Tryz.prog wr = .ok (.bool (x == 80)) wr := by
          have e : ((x.toNat : Int) == 80) = (x == 80) := by
            rw [Bool.eq_iff_iff, beq_iff_eq, beq_iff_eq, ← UInt8.toNat_inj]
            show _ ↔ x.toNat = 80
            omega
          clear hx hix
          go_simp
        clear hx
        generalize (us.take k).any (· == 80) = a at HT ⊢
        go_upto_region 29 with fail
        refine wp_region_lit ?_
        refine fl_start ?_
        generalize ha : Act.mk _ _ = a0
        have hn : a0.tmps.size = 79 := by rw [← ha]; kernel_rfl
        have h9 : (fr a0 []).eval (.tmp 9) = .bool a := by rw [← ha]; kernel_rfl
        refine fl_know hn rfl h9 ?_
        clear h9
        have h7 : (fr a0 [(9, true, .bool a)]).eval (.tmp 7) = .string S := by rw [← ha]; kernel_rfl
        refine fl_know hn rfl h7 ?_
        clear h7
        have h10 : (fr a0 [(7, true, .string S), (9, true, .bool a)]).eval (.tmp 10) = .int .i64 (k : Int) := by rw [← ha]; kernel_rfl
        refine fl_know hn rfl h10 ?_
        clear h10
        have h8 : (fr a0 [(10, true, .int .i64 (k : Int)), (7, true, .string S), (9, true, .bool a)]).eval (.tmp 8) = .int .u8 80 := by rw [← ha]; kernel_rfl
        refine fl_know hn rfl h8 ?_
        clear h8
        repeat first | refine g_mv hn ?_ | refine g_as hn ?_ | refine g_fd hn ?_ | refine g_ld hn ?_ | refine g_nc hn ?_ | refine g_nt hn ?_ | refine g_an hn ?_ | refine g_or hn ?_ | refine g_ln hn ?_ | refine g_ex hn ?_ | refine g_neq2 hn ?_ | refine g_neq hn ?_ | refine g_eql2 hn ?_ | refine g_eql hn ?_ | refine g_leq2 hn ?_ | refine g_leq hn ?_ | refine g_lss2 hn ?_ | refine g_lss hn ?_ | refine g_gtr2 hn ?_ | refine g_gtr hn ?_ | refine g_geq2 hn ?_ | refine g_geq hn ?_ | refine g_b0 hn ?_ | refine g_bn hn ?_ | refine g_bc hn ?_ | refine g_cv hn ?_ | refine g_ac hn ?_ | refine g_mc hn ?_
        refine g_o2 (i := 68) (j := 69) (vi := .string S) (vj := .int .i64 (k : Int)) (v := .int .u8 (x.toNat : Int)) hn (fun ρ h1 h2 _ => by unfold execOp; dsimp only; rw [h1, h2, Sem.run_bind, hix]; rfl) ?_
        repeat first | refine g_mv hn ?_ | refine g_as hn ?_ | refine g_fd hn ?_ | refine g_ld hn ?_ | refine g_nc hn ?_ | refine g_nt hn ?_ | refine g_an hn ?_ | refine g_or hn ?_ | refine g_ln hn ?_ | refine g_ex hn ?_ | refine g_neq2 hn ?_ | refine g_neq hn ?_ | refine g_eql2 hn ?_ | refine g_eql hn ?_ | refine g_leq2 hn ?_ | refine g_leq hn ?_ | refine g_lss2 hn ?_ | refine g_lss hn ?_ | refine g_gtr2 hn ?_ | refine g_gtr hn ?_ | refine g_geq2 hn ?_ | refine g_geq hn ?_ | refine g_b0 hn ?_ | refine g_bn hn ?_ | refine g_bc hn ?_ | refine g_cv hn ?_ | refine g_ac hn ?_ | refine g_mc hn ?_
        refine fl_end ?_
        clear hn ceq hix
        subst ha
        dsimp only [fr, cnd, Act.put, cond_true]
        simp only [List.setIfInBounds_toArray, List.set_cons_zero, List.set_cons_succ]
        go_wp2_with fail
        go_roundw
        case rel => exact ⟨k + 1, by omega, by go_num, by rw [← HT.out], by first | rfl | trivial⟩
        case measure => simp [intOf]; omega
      · have ek : k = us.length := by omega
        subst ek
        have i2 : ¬ (us.length : Int) < (S.size : Int) := by omega
        rw [List.take_length, ← HGj]
        have hv : goodLt (lk0 m) = goodLt (lk0 m) := rfl
        generalize hgg : goodLt (lk0 m) = gg
        have beqv : ((do eqGuard .eql 4 (.tmp 76) (.tmp 77) (.bool gg) (.bool gg); binOp .eql 4 (.bool gg) (.bool gg)) : Sem Value).run Tryz.prog = fun W => .ok (.bool true) W := by
          funext W
          cases gg <;> go_simp
        go_upto_region 31 with fail
        refine wp_region_lit ?_
        refine fl_start ?_
        generalize ha : Act.mk _ _ = a0
        have hn : a0.tmps.size = 79 := by rw [← ha]; kernel_rfl
        have h5 : (fr a0 []).eval (.tmp 5) = .pointer (some ⟨b, 0, none⟩) := by rw [← ha]; kernel_rfl
        refine fl_know hn rfl h5 ?_
        clear h5
        have h9 : (fr a0 [(5, true, .pointer (some ⟨b, 0, none⟩))]).eval (.tmp 9) = .bool gg := by rw [← ha]; kernel_rfl
        refine fl_know hn rfl h9 ?_
        clear h9
        refine g_ldA hn HX6.out ?_
        refine g_c1w enters_ltGood hn (ltGood_any (lk0 m) hn0 _ HR.out (Nat.le_refl _) HF.out) ?_
        intro w9 hb9
        rw [hgg]
        have bw : ((do eqGuard .eql 4 (.tmp 76) (.tmp 77) (.bool gg) (.bool gg); binOp .eql 4 (.bool gg) (.bool gg)) : Sem Value).run Tryz.prog w9 = .ok (.bool true) w9 := by rw [beqv]
        repeat first | refine g_mv hn ?_ | refine g_as hn ?_ | refine g_fd hn ?_ | refine g_ld hn ?_ | refine g_nc hn ?_ | refine g_nt hn ?_ | refine g_an hn ?_ | refine g_or hn ?_ | refine g_ln hn ?_ | refine g_ex hn ?_ | refine g_neq2 hn ?_ | refine g_neq hn ?_ | refine g_eql2 hn ?_ | refine g_eql hn ?_ | refine g_leq2 hn ?_ | refine g_leq hn ?_ | refine g_lss2 hn ?_ | refine g_lss hn ?_ | refine g_gtr2 hn ?_ | refine g_gtr hn ?_ | refine g_geq2 hn ?_ | refine g_geq hn ?_ | refine g_b0 hn ?_ | refine g_bn hn ?_ | refine g_bc hn ?_ | refine g_cv hn ?_ | refine g_ac hn ?_ | refine g_mc hn ?_
        refine fl_end ?_
        clear hn bw beqv
        subst ha
        dsimp only [fr, cnd, Act.put, cond_true]
        simp only [List.setIfInBounds_toArray, List.set_cons_zero, List.set_cons_succ]
        go_wp2_with fail
        go_ret
        exact ⟨rfl, bt HB.out hb9⟩
  · have c8 : ((do eqGuard .rem 5 (.tmp 26) (.const (.int .u8 8)) (.int .u8 f) (.int .u8 8); binOp .rem 5 (.int .u8 f) (.int .u8 8)) : Sem Value).run Tryz.prog w5 = .ok (.int .u8 1) w5 := by
      have e1 : f.tmod 8 = 1 := hft
      go_simp
    go_upto_region 6 with fail
    refine wp_region_lit ?_
    refine fl_start ?_
    generalize ha : Act.mk _ _ = a0
    have hn : a0.tmps.size = 79 := by rw [← ha]; kernel_rfl
    have h1 : (fr a0 []).eval (.tmp 1) = .int .u8 f := by rw [← ha]; kernel_rfl
    refine fl_know hn rfl h1 ?_
    clear h1
    refine g_mv hn ?_
    refine g_bc hn ?_
    refine g_o1 (i := 27) (vi := .int .u8 1) (v := .int .u8 82) hn (fun ρ h1 hc => by unfold execOp; dsimp only; rw [h1, hc, Sem.run_bind, one_1]; rfl) ?_
    refine g_as hn ?_
    refine fl_end ?_
    clear hn c8
    subst ha
    dsimp only [fr, cnd, Act.put, cond_true]
    simp only [List.setIfInBounds_toArray, List.set_cons_zero, List.set_cons_succ]
    go_upto_region 11 with fail
    refine wp_region_lit ?_
    refine fl_start ?_
    generalize ha : Act.mk _ _ = a0
    have hn : a0.tmps.size = 79 := by rw [← ha]; kernel_rfl
    have h5 : (fr a0 []).eval (.tmp 5) = .pointer (some ⟨b, 0, none⟩) := by rw [← ha]; kernel_rfl
    refine fl_know hn rfl h5 ?_
    clear h5
    have h6 : (fr a0 [(5, true, .pointer (some ⟨b, 0, none⟩))]).eval (.tmp 6) = .pointer (some ⟨c, 0, none⟩) := by rw [← ha]; kernel_rfl
    refine fl_know hn rfl h6 ?_
    clear h6
    refine g_w hn (w2 := w5.alloc (.cells #[.string ⟨#[97]⟩] 9)) (v := .slice (some ⟨w5.heap.size, 0, none⟩) 1 1) (fun hk => by kernel_rfl) ?_
    have hX8 := (HX.out).alloc (.cells #[.string ⟨#[97]⟩] 9)
    have hZ8 := blk_new w5 #[.string ⟨#[97]⟩] 9
    have hB8 := bt HB5.out (b0 w5 (.cells #[.string ⟨#[97]⟩] 9))
    have hbg : b < w5.heap.size := (HX.out).lt
    generalize w5.alloc (.cells #[.string ⟨#[97]⟩] 9) = w8 at hX8 hZ8 hB8 ⊢
    generalize w5.heap.size = g at hZ8 hbg ⊢
    refine g_fdL hn ?_
    refine g_stt hX8 (st_kR (j := 13) hX8 (by simp) (some ⟨g, 0, none⟩) 1 1) ?_
    intro w6 ho hX6
    simp only [List.setIfInBounds_toArray, List.set_cons_zero, List.set_cons_succ] at hX6
    have hZ6 := hZ8.only ho (by omega)
    have HX6 : Hid (Blk w6 b (ltI (lk1 m) (hnk1 g)) 58) := hX6
    have hR6 := ltR_1 m hZ6
    have hF6 := ltF_1 m
    have hB6 := hB8.trans (ho.below hlb)
    refine fl_end ?_
    clear hn
    subst ha
    dsimp only [fr, cnd, Act.put, cond_true]
    simp only [List.setIfInBounds_toArray, List.set_cons_zero, List.set_cons_succ]
    have HR := Lib.hid hR6
    have HF := Lib.hid hF6
    have HB := Lib.hid hB6
    have HGj := HG1.out
    clear HX hB6 hR6 hF6 hX6 ho
    go_upto_region 26 with fail
    go_wp2_with fail
    go_loopw [9, 10, 63] (fun v _ i wr => ∃ k : Nat, k ≤ us.length ∧ i = .int .i64 k ∧ v = .bool ((us.take k).any (· == 82)) ∧ wr = w6) (fun _ _ i _ => us.length - (intOf i).toNat)
    case atStart => exact ⟨0, Nat.zero_le _, rfl, rfl, rfl⟩
    case round =>
      obtain ⟨k, hk, rfl, rfl, rfl⟩ := hrel
      have hsz := HU.out
      have hu5 := H5.out
      by_cases hlt : k < us.length
      · obtain ⟨x, hx⟩ : ∃ x, us[k]? = some x := ⟨_, List.getElem?_eq_getElem hlt⟩
        have i2 : (k : Int) < (S.size : Int) := by omega
        have HT := Lib.hid (take_eq (c := 82) hx)
        have hix := HI.out k x hx wr
        have ceq : ((do eqGuard .eql 5 (.tmp 70) (.tmp 71) (.int .u8 (x.toNat : Int)) (.int .u8 82); binOp .eql 5 (.int .u8 (x.toNat : Int)) (.int .u8 82)) : Sem Value).run Tryz.prog wr = .ok (.bool (x == 82)) wr := by
          have e : ((x.toNat : Int) == 82) = (x == 82) := by
            rw [Bool.eq_iff_iff, beq_iff_eq, beq_iff_eq, ← UInt8.toNat_inj]
            show _ ↔ x.toNat = 82
            omega
          clear hx hix
          go_simp
        clear hx
        generalize (us.take k).any (· == 82) = a at HT ⊢
        go_upto_region 29 with fail
        refine wp_region_lit ?_
        refine fl_start ?_
        generalize ha : Act.mk _ _ = a0
        have hn : a0.tmps.size = 79 := by rw [← ha]; kernel_rfl
        have h9 : (fr a0 []).eval (.tmp 9) = .bool a := by rw [← ha]; kernel_rfl
        refine fl_know hn rfl h9 ?_
        clear h9
        have h7 : (fr a0 [(9, true, .bool a)]).eval (.tmp 7) = .string S := by rw [← ha]; kernel_rfl
        refine fl_know hn rfl h7 ?_
        clear h7
        have h10 : (fr a0 [(7, true, .string S), (9, true, .bool a)]).eval (.tmp 10) = .int .i64 (k : Int) := by rw [← ha]; kernel_rfl
        refine fl_know hn rfl h10 ?_
        clear h10
        have h8 : (fr a0 [(10, true, .int .i64 (k : Int)), (7, true, .string S), (9, true, .bool a)]).eval (.tmp 8) = .int .u8 82 := by rw [← ha]; kernel_rfl
        refine fl_know hn rfl h8 ?_
        clear h8
        repeat first | refine g_mv hn ?_ | refine g_as hn ?_ | refine g_fd hn ?_ | refine g_ld hn ?_ | refine g_nc hn ?_ | refine g_nt hn ?_ | refine g_an hn ?_ | refine g_or hn ?_ | refine g_ln hn ?_ | refine g_ex hn ?_ | refine g_neq2 hn ?_ | refine g_neq hn ?_ | refine g_eql2 hn ?_ | refine g_eql hn ?_ | refine g_leq2 hn ?_ | refine g_leq hn ?_ | refine g_lss2 hn ?_ | refine g_lss hn ?_ | refine g_gtr2 hn ?_ | refine g_gtr hn ?_ | refine g_geq2 hn ?_ | refine g_geq hn ?_ | refine g_b0 hn ?_ | refine g_bn hn ?_ | refine g_bc hn ?_ | refine g_cv hn ?_ | refine g_ac hn ?_ | refine g_mc hn ?_
        refine g_o2 (i := 68) (j := 69) (vi := .string S) (vj := .int .i64 (k : Int)) (v := .int .u8 (x.toNat : Int)) hn (fun ρ h1 h2 _ => by unfold execOp; dsimp only; rw [h1, h2, Sem.run_bind, hix]; rfl) ?_
        repeat first | refine g_mv hn ?_ | refine g_as hn ?_ | refine g_fd hn ?_ | refine g_ld hn ?_ | refine g_nc hn ?_ | refine g_nt hn ?_ | refine g_an hn ?_ | refine g_or hn ?_ | refine g_ln hn ?_ | refine g_ex hn ?_ | refine g_neq2 hn ?_ | refine g_neq hn ?_ | refine g_eql2 hn ?_ | refine g_eql hn ?_ | refine g_leq2 hn ?_ | refine g_leq hn ?_ | refine g_lss2 hn ?_ | refine g_lss hn ?_ | refine g_gtr2 hn ?_ | refine g_gtr hn ?_ | refine g_geq2 hn ?_ | refine g_geq hn ?_ | refine g_b0 hn ?_ | refine g_bn hn ?_ | refine g_bc hn ?_ | refine g_cv hn ?_ | refine g_ac hn ?_ | refine g_mc hn ?_
        refine fl_end ?_
        clear hn ceq hix
        subst ha
        dsimp only [fr, cnd, Act.put, cond_true]
        simp only [List.setIfInBounds_toArray, List.set_cons_zero, List.set_cons_succ]
        go_wp2_with fail
        go_roundw
        case rel => exact ⟨k + 1, by omega, by go_num, by rw [← HT.out], by first | rfl | trivial⟩
        case measure => simp [intOf]; omega
      · have ek : k = us.length := by omega
        subst ek
        have i2 : ¬ (us.length : Int) < (S.size : Int) := by omega
        rw [List.take_length, ← HGj]
        have hv : goodLt (lk1 m) = goodLt (lk1 m) := rfl
        generalize hgg : goodLt (lk1 m) = gg
        have beqv : ((do eqGuard .eql 4 (.tmp 76) (.tmp 77) (.bool gg) (.bool gg); binOp .eql 4 (.bool gg) (.bool gg)) : Sem Value).run Tryz.prog = fun W => .ok (.bool true) W := by
          funext W
          cases gg <;> go_simp
        go_upto_region 31 with fail
        refine wp_region_lit ?_
        refine fl_start ?_
        generalize ha : Act.mk _ _ = a0
        have hn : a0.tmps.size = 79 := by rw [← ha]; kernel_rfl
        have h5 : (fr a0 []).eval (.tmp 5) = .pointer (some ⟨b, 0, none⟩) := by rw [← ha]; kernel_rfl
        refine fl_know hn rfl h5 ?_
        clear h5
        have h9 : (fr a0 [(5, true, .pointer (some ⟨b, 0, none⟩))]).eval (.tmp 9) = .bool gg := by rw [← ha]; kernel_rfl
        refine fl_know hn rfl h9 ?_
        clear h9
        refine g_ldA hn HX6.out ?_
        refine g_c1w enters_ltGood hn (ltGood_any (lk1 m) (hnk1 g) _ HR.out (Nat.le_refl _) HF.out) ?_
        intro w9 hb9
        rw [hgg]
        have bw : ((do eqGuard .eql 4 (.tmp 76) (.tmp 77) (.bool gg) (.bool gg); binOp .eql 4 (.bool gg) (.bool gg)) : Sem Value).run Tryz.prog w9 = .ok (.bool true) w9 := by rw [beqv]
        repeat first | refine g_mv hn ?_ | refine g_as hn ?_ | refine g_fd hn ?_ | refine g_ld hn ?_ | refine g_nc hn ?_ | refine g_nt hn ?_ | refine g_an hn ?_ | refine g_or hn ?_ | refine g_ln hn ?_ | refine g_ex hn ?_ | refine g_neq2 hn ?_ | refine g_neq hn ?_ | refine g_eql2 hn ?_ | refine g_eql hn ?_ | refine g_leq2 hn ?_ | refine g_leq hn ?_ | refine g_lss2 hn ?_ | refine g_lss hn ?_ | refine g_gtr2 hn ?_ | refine g_gtr hn ?_ | refine g_geq2 hn ?_ | refine g_geq hn ?_ | refine g_b0 hn ?_ | refine g_bn hn ?_ | refine g_bc hn ?_ | refine g_cv hn ?_ | refine g_ac hn ?_ | refine g_mc hn ?_
        refine fl_end ?_
        clear hn bw beqv
        subst ha
        dsimp only [fr, cnd, Act.put, cond_true]
        simp only [List.setIfInBounds_toArray, List.set_cons_zero, List.set_cons_succ]
        go_wp2_with fail
        go_ret
        exact ⟨rfl, bt HB.out hb9⟩
  · have c8 : ((do eqGuard .rem 5 (.tmp 26) (.const (.int .u8 8)) (.int .u8 f) (.int .u8 8); binOp .rem 5 (.int .u8 f) (.int .u8 8)) : Sem Value).run Tryz.prog w5 = .ok (.int .u8 2) w5 := by
      have e1 : f.tmod 8 = 2 := hft
      go_simp
    go_upto_region 6 with fail
    refine wp_region_lit ?_
    refine fl_start ?_
    generalize ha : Act.mk _ _ = a0
    have hn : a0.tmps.size = 79 := by rw [← ha]; kernel_rfl
    have h1 : (fr a0 []).eval (.tmp 1) = .int .u8 f := by rw [← ha]; kernel_rfl
    refine fl_know hn rfl h1 ?_
    clear h1
    refine g_mv hn ?_
    refine g_bc hn ?_
    refine g_o1 (i := 27) (vi := .int .u8 2) (v := .int .u8 70) hn (fun ρ h1 hc => by unfold execOp; dsimp only; rw [h1, hc, Sem.run_bind, one_2]; rfl) ?_
    refine g_as hn ?_
    refine fl_end ?_
    clear hn c8
    subst ha
    dsimp only [fr, cnd, Act.put, cond_true]
    simp only [List.setIfInBounds_toArray, List.set_cons_zero, List.set_cons_succ]
    go_upto_region 13 with fail
    refine wp_region_lit ?_
    refine fl_start ?_
    generalize ha : Act.mk _ _ = a0
    have hn : a0.tmps.size = 79 := by rw [← ha]; kernel_rfl
    have h5 : (fr a0 []).eval (.tmp 5) = .pointer (some ⟨b, 0, none⟩) := by rw [← ha]; kernel_rfl
    refine fl_know hn rfl h5 ?_
    clear h5
    have h6 : (fr a0 [(5, true, .pointer (some ⟨b, 0, none⟩))]).eval (.tmp 6) = .pointer (some ⟨c, 0, none⟩) := by rw [← ha]; kernel_rfl
    refine fl_know hn rfl h6 ?_
    clear h6
    refine g_fdL hn ?_
    refine g_stc HX.out (st_int (j := 7) HX.out (by simp) 5) ?_
    intro w6 ho hX6
    simp only [List.setIfInBounds_toArray, List.set_cons_zero, List.set_cons_succ] at hX6
    have HX6 : Hid (Blk w6 b (ltI (lk2 m) hn0) 58) := hX6
    have hR6 := ltR_nil w6.heap.size w6 (lk2 m) rfl rfl rfl rfl
    have hF6 := ltF_nil (lk2 m) rfl rfl rfl rfl
    have hB6 := HB5.out.trans (ho.below hlb)
    refine fl_end ?_
    clear hn
    subst ha
    dsimp only [fr, cnd, Act.put, cond_true]
    simp only [List.setIfInBounds_toArray, List.set_cons_zero, List.set_cons_succ]
    have HR := Lib.hid hR6
    have HF := Lib.hid hF6
    have HB := Lib.hid hB6
    have HGj := HG2.out
    clear HX hB6 hR6 hF6 hX6 ho
    go_upto_region 26 with fail
    go_wp2_with fail
    go_loopw [9, 10, 63] (fun v _ i wr => ∃ k : Nat, k ≤ us.length ∧ i = .int .i64 k ∧ v = .bool ((us.take k).any (· == 70)) ∧ wr = w6) (fun _ _ i _ => us.length - (intOf i).toNat)
    case atStart => exact ⟨0, Nat.zero_le _, rfl, rfl, rfl⟩
    case round =>
      obtain ⟨k, hk, rfl, rfl, rfl⟩ := hrel
      have hsz := HU.out
      have hu5 := H5.out
      by_cases hlt : k < us.length
      · obtain ⟨x, hx⟩ : ∃ x, us[k]? = some x := ⟨_, List.getElem?_eq_getElem hlt⟩
        have i2 : (k : Int) < (S.size : Int) := by omega
        have HT := Lib.hid (take_eq (c := 70) hx)
        have hix := HI.out k x hx wr
        have ceq : ((do eqGuard .eql 5 (.tmp 70) (.tmp 71) (.int .u8 (x.toNat : Int)) (.int .u8 70); binOp .eql 5 (.int .u8 (x.toNat : Int)) (.int .u8 70)) : Sem Value).run Tryz.prog wr = .ok (.bool (x == 70)) wr := by
          have e : ((x.toNat : Int) == 70) = (x == 70) := by
            rw [Bool.eq_iff_iff, beq_iff_eq, beq_iff_eq, ← UInt8.toNat_inj]
            show _ ↔ x.toNat = 70
            omega
          clear hx hix
          go_simp
        clear hx
        generalize (us.take k).any (· == 70) = a at HT ⊢
        go_upto_region 29 with fail
        refine wp_region_lit ?_
        refine fl_start ?_
        generalize ha : Act.mk _ _ = a0
        have hn : a0.tmps.size = 79 := by rw [← ha]; kernel_rfl
        have h9 : (fr a0 []).eval (.tmp 9) = .bool a := by rw [← ha]; kernel_rfl
        refine fl_know hn rfl h9 ?_
        clear h9
        have h7 : (fr a0 [(9, true, .bool a)]).eval (.tmp 7) = .string S := by rw [← ha]; kernel_rfl
        refine fl_know hn rfl h7 ?_
        clear h7
        have h10 : (fr a0 [(7, true, .string S), (9, true, .bool a)]).eval (.tmp 10) = .int .i64 (k : Int) := by rw [← ha]; kernel_rfl
        refine fl_know hn rfl h10 ?_
        clear h10
        have h8 : (fr a0 [(10, true, .int .i64 (k : Int)), (7, true, .string S), (9, true, .bool a)]).eval (.tmp 8) = .int .u8 70 := by rw [← ha]; kernel_rfl
        refine fl_know hn rfl h8 ?_
        clear h8
        repeat first | refine g_mv hn ?_ | refine g_as hn ?_ | refine g_fd hn ?_ | refine g_ld hn ?_ | refine g_nc hn ?_ | refine g_nt hn ?_ | refine g_an hn ?_ | refine g_or hn ?_ | refine g_ln hn ?_ | refine g_ex hn ?_ | refine g_neq2 hn ?_ | refine g_neq hn ?_ | refine g_eql2 hn ?_ | refine g_eql hn ?_ | refine g_leq2 hn ?_ | refine g_leq hn ?_ | refine g_lss2 hn ?_ | refine g_lss hn ?_ | refine g_gtr2 hn ?_ | refine g_gtr hn ?_ | refine g_geq2 hn ?_ | refine g_geq hn ?_ | refine g_b0 hn ?_ | refine g_bn hn ?_ | refine g_bc hn ?_ | refine g_cv hn ?_ | refine g_ac hn ?_ | refine g_mc hn ?_
        refine g_o2 (i := 68) (j := 69) (vi := .string S) (vj := .int .i64 (k : Int)) (v := .int .u8 (x.toNat : Int)) hn (fun ρ h1 h2 _ => by unfold execOp; dsimp only; rw [h1, h2, Sem.run_bind, hix]; rfl) ?_
        repeat first | refine g_mv hn ?_ | refine g_as hn ?_ | refine g_fd hn ?_ | refine g_ld hn ?_ | refine g_nc hn ?_ | refine g_nt hn ?_ | refine g_an hn ?_ | refine g_or hn ?_ | refine g_ln hn ?_ | refine g_ex hn ?_ | refine g_neq2 hn ?_ | refine g_neq hn ?_ | refine g_eql2 hn ?_ | refine g_eql hn ?_ | refine g_leq2 hn ?_ | refine g_leq hn ?_ | refine g_lss2 hn ?_ | refine g_lss hn ?_ | refine g_gtr2 hn ?_ | refine g_gtr hn ?_ | refine g_geq2 hn ?_ | refine g_geq hn ?_ | refine g_b0 hn ?_ | refine g_bn hn ?_ | refine g_bc hn ?_ | refine g_cv hn ?_ | refine g_ac hn ?_ | refine g_mc hn ?_
        refine fl_end ?_
        clear hn ceq hix
        subst ha
        dsimp only [fr, cnd, Act.put, cond_true]
        simp only [List.setIfInBounds_toArray, List.set_cons_zero, List.set_cons_succ]
        go_wp2_with fail
        go_roundw
        case rel => exact ⟨k + 1, by omega, by go_num, by rw [← HT.out], by first | rfl | trivial⟩
        case measure => simp [intOf]; omega
      · have ek : k = us.length := by omega
        subst ek
        have i2 : ¬ (us.length : Int) < (S.size : Int) := by omega
        rw [List.take_length, ← HGj]
        have hv : goodLt (lk2 m) = goodLt (lk2 m) := rfl
        generalize hgg : goodLt (lk2 m) = gg
        have beqv : ((do eqGuard .eql 4 (.tmp 76) (.tmp 77) (.bool gg) (.bool gg); binOp .eql 4 (.bool gg) (.bool gg)) : Sem Value).run Tryz.prog = fun W => .ok (.bool true) W := by
          funext W
          cases gg <;> go_simp
        go_upto_region 31 with fail
        refine wp_region_lit ?_
        refine fl_start ?_
        generalize ha : Act.mk _ _ = a0
        have hn : a0.tmps.size = 79 := by rw [← ha]; kernel_rfl
        have h5 : (fr a0 []).eval (.tmp 5) = .pointer (some ⟨b, 0, none⟩) := by rw [← ha]; kernel_rfl
        refine fl_know hn rfl h5 ?_
        clear h5
        have h9 : (fr a0 [(5, true, .pointer (some ⟨b, 0, none⟩))]).eval (.tmp 9) = .bool gg := by rw [← ha]; kernel_rfl
        refine fl_know hn rfl h9 ?_
        clear h9
        refine g_ldA hn HX6.out ?_
        refine g_c1w enters_ltGood hn (ltGood_any (lk2 m) hn0 _ HR.out (Nat.le_refl _) HF.out) ?_
        intro w9 hb9
        rw [hgg]
        have bw : ((do eqGuard .eql 4 (.tmp 76) (.tmp 77) (.bool gg) (.bool gg); binOp .eql 4 (.bool gg) (.bool gg)) : Sem Value).run Tryz.prog w9 = .ok (.bool true) w9 := by rw [beqv]
        repeat first | refine g_mv hn ?_ | refine g_as hn ?_ | refine g_fd hn ?_ | refine g_ld hn ?_ | refine g_nc hn ?_ | refine g_nt hn ?_ | refine g_an hn ?_ | refine g_or hn ?_ | refine g_ln hn ?_ | refine g_ex hn ?_ | refine g_neq2 hn ?_ | refine g_neq hn ?_ | refine g_eql2 hn ?_ | refine g_eql hn ?_ | refine g_leq2 hn ?_ | refine g_leq hn ?_ | refine g_lss2 hn ?_ | refine g_lss hn ?_ | refine g_gtr2 hn ?_ | refine g_gtr hn ?_ | refine g_geq2 hn ?_ | refine g_geq hn ?_ | refine g_b0 hn ?_ | refine g_bn hn ?_ | refine g_bc hn ?_ | refine g_cv hn ?_ | refine g_ac hn ?_ | refine g_mc hn ?_
        refine fl_end ?_
        clear hn bw beqv
        subst ha
        dsimp only [fr, cnd, Act.put, cond_true]
        simp only [List.setIfInBounds_toArray, List.set_cons_zero, List.set_cons_succ]
        go_wp2_with fail
        go_ret
        exact ⟨rfl, bt HB.out hb9⟩
  · have c8 : ((do eqGuard .rem 5 (.tmp 26) (.const (.int .u8 8)) (.int .u8 f) (.int .u8 8); binOp .rem 5 (.int .u8 f) (.int .u8 8)) : Sem Value).run Tryz.prog w5 = .ok (.int .u8 3) w5 := by
      have e1 : f.tmod 8 = 3 := hft
      go_simp
    go_upto_region 6 with fail
    refine wp_region_lit ?_
    refine fl_start ?_
    generalize ha : Act.mk _ _ = a0
    have hn : a0.tmps.size = 79 := by rw [← ha]; kernel_rfl
    have h1 : (fr a0 []).eval (.tmp 1) = .int .u8 f := by rw [← ha]; kernel_rfl
    refine fl_know hn rfl h1 ?_
    clear h1
    refine g_mv hn ?_
    refine g_bc hn ?_
    refine g_o1 (i := 27) (vi := .int .u8 3) (v := .int .u8 83) hn (fun ρ h1 hc => by unfold execOp; dsimp only; rw [h1, hc, Sem.run_bind, one_3]; rfl) ?_
    refine g_as hn ?_
    refine fl_end ?_
    clear hn c8
    subst ha
    dsimp only [fr, cnd, Act.put, cond_true]
    simp only [List.setIfInBounds_toArray, List.set_cons_zero, List.set_cons_succ]
    go_upto_region 15 with fail
    refine wp_region_lit ?_
    refine fl_start ?_
    generalize ha : Act.mk _ _ = a0
    have hn : a0.tmps.size = 79 := by rw [← ha]; kernel_rfl
    have h5 : (fr a0 []).eval (.tmp 5) = .pointer (some ⟨b, 0, none⟩) := by rw [← ha]; kernel_rfl
    refine fl_know hn rfl h5 ?_
    clear h5
    have h6 : (fr a0 [(5, true, .pointer (some ⟨b, 0, none⟩))]).eval (.tmp 6) = .pointer (some ⟨c, 0, none⟩) := by rw [← ha]; kernel_rfl
    refine fl_know hn rfl h6 ?_
    clear h6
    refine g_fdL hn ?_
    refine g_stc HX.out (st_int (j := 8) HX.out (by simp) 5) ?_
    intro w6 ho hX6
    simp only [List.setIfInBounds_toArray, List.set_cons_zero, List.set_cons_succ] at hX6
    have HX6 : Hid (Blk w6 b (ltI (lk3 m) hn0) 58) := hX6
    have hR6 := ltR_nil w6.heap.size w6 (lk3 m) rfl rfl rfl rfl
    have hF6 := ltF_nil (lk3 m) rfl rfl rfl rfl
    have hB6 := HB5.out.trans (ho.below hlb)
    refine fl_end ?_
    clear hn
    subst ha
    dsimp only [fr, cnd, Act.put, cond_true]
    simp only [List.setIfInBounds_toArray, List.set_cons_zero, List.set_cons_succ]
    have HR := Lib.hid hR6
    have HF := Lib.hid hF6
    have HB := Lib.hid hB6
    have HGj := HG3.out
    clear HX hB6 hR6 hF6 hX6 ho
    go_upto_region 26 with fail
    go_wp2_with fail
    go_loopw [9, 10, 63] (fun v _ i wr => ∃ k : Nat, k ≤ us.length ∧ i = .int .i64 k ∧ v = .bool ((us.take k).any (· == 83)) ∧ wr = w6) (fun _ _ i _ => us.length - (intOf i).toNat)
    case atStart => exact ⟨0, Nat.zero_le _, rfl, rfl, rfl⟩
    case round =>
      obtain ⟨k, hk, rfl, rfl, rfl⟩ := hrel
      have hsz := HU.out
      have hu5 := H5.out
      by_cases hlt : k < us.length
      · obtain ⟨x, hx⟩ : ∃ x, us[k]? = some x := ⟨_, List.getElem?_eq_getElem hlt⟩
        have i2 : (k : Int) < (S.size : Int) := by omega
        have HT := Lib.hid (take_eq (c := 83) hx)
        have hix := HI.out k x hx wr
        have ceq : ((do eqGuard .eql 5 (.tmp 70) (.tmp 71) (.int .u8 (x.toNat : Int)) (.int .u8 83); binOp .eql 5 (.int .u8 (x.toNat : Int)) (.int .u8 83)) : Sem Value).run Tryz.prog wr = .ok (.bool (x == 83)) wr := by
          have e : ((x.toNat : Int) == 83) = (x == 83) := by
            rw [Bool.eq_iff_iff, beq_iff_eq, beq_iff_eq, ← UInt8.toNat_inj]
            show _ ↔ x.toNat = 83
            omega
          clear hx hix
          go_simp
        clear hx
        generalize (us.take k).any (· == 83) = a at HT ⊢
        go_upto_region 29 with fail
        refine wp_region_lit ?_
        refine fl_start ?_
        generalize ha : Act.mk _ _ = a0
        have hn : a0.tmps.size = 79 := by rw [← ha]; kernel_rfl
        have h9 : (fr a0 []).eval (.tmp 9) = .bool a := by rw [← ha]; kernel_rfl
        refine fl_know hn rfl h9 ?_
        clear h9
        have h7 : (fr a0 [(9, true, .bool a)]).eval (.tmp 7) = .string S := by rw [← ha]; kernel_rfl
        refine fl_know hn rfl h7 ?_
        clear h7
        have h10 : (fr a0 [(7, true, .string S), (9, true, .bool a)]).eval (.tmp 10) = .int .i64 (k : Int) := by rw [← ha]; kernel_rfl
        refine fl_know hn rfl h10 ?_
        clear h10
        have h8 : (fr a0 [(10, true, .int .i64 (k : Int)), (7, true, .string S), (9, true, .bool a)]).eval (.tmp 8) = .int .u8 83 := by rw [← ha]; kernel_rfl
        refine fl_know hn rfl h8 ?_
        clear h8
        repeat first | refine g_mv hn ?_ | refine g_as hn ?_ | refine g_fd hn ?_ | refine g_ld hn ?_ | refine g_nc hn ?_ | refine g_nt hn ?_ | refine g_an hn ?_ | refine g_or hn ?_ | refine g_ln hn ?_ | refine g_ex hn ?_ | refine g_neq2 hn ?_ | refine g_neq hn ?_ | refine g_eql2 hn ?_ | refine g_eql hn ?_ | refine g_leq2 hn ?_ | refine g_leq hn ?_ | refine g_lss2 hn ?_ | refine g_lss hn ?_ | refine g_gtr2 hn ?_ | refine g_gtr hn ?_ | refine g_geq2 hn ?_ | refine g_geq hn ?_ | refine g_b0 hn ?_ | refine g_bn hn ?_ | refine g_bc hn ?_ | refine g_cv hn ?_ | refine g_ac hn ?_ | refine g_mc hn ?_
        refine g_o2 (i := 68) (j := 69) (vi := .string S) (vj := .int .i64 (k : Int)) (v := .int .u8 (x.toNat : Int)) hn (fun ρ h1 h2 _ => by unfold execOp; dsimp only; rw [h1, h2, Sem.run_bind, hix]; rfl) ?_
        repeat first | refine g_mv hn ?_ | refine g_as hn ?_ | refine g_fd hn ?_ | refine g_ld hn ?_ | refine g_nc hn ?_ | refine g_nt hn ?_ | refine g_an hn ?_ | refine g_or hn ?_ | refine g_ln hn ?_ | refine g_ex hn ?_ | refine g_neq2 hn ?_ | refine g_neq hn ?_ | refine g_eql2 hn ?_ | refine g_eql hn ?_ | refine g_leq2 hn ?_ | refine g_leq hn ?_ | refine g_lss2 hn ?_ | refine g_lss hn ?_ | refine g_gtr2 hn ?_ | refine g_gtr hn ?_ | refine g_geq2 hn ?_ | refine g_geq hn ?_ | refine g_b0 hn ?_ | refine g_bn hn ?_ | refine g_bc hn ?_ | refine g_cv hn ?_ | refine g_ac hn ?_ | refine g_mc hn ?_
        refine fl_end ?_
        clear hn ceq hix
        subst ha
        dsimp only [fr, cnd, Act.put, cond_true]
        simp only [List.setIfInBounds_toArray, List.set_cons_zero, List.set_cons_succ]
        go_wp2_with fail
        go_roundw
        case rel => exact ⟨k + 1, by omega, by go_num, by rw [← HT.out], by first | rfl | trivial⟩
        case measure => simp [intOf]; omega
      · have ek : k = us.length := by omega
        subst ek
        have i2 : ¬ (us.length : Int) < (S.size : Int) := by omega
        rw [List.take_length, ← HGj]
        have hv : goodLt (lk3 m) = goodLt (lk3 m) := rfl
        generalize hgg : goodLt (lk3 m) = gg
        have beqv : ((do eqGuard .eql 4 (.tmp 76) (.tmp 77) (.bool gg) (.bool gg); binOp .eql 4 (.bool gg) (.bool gg)) : Sem Value).run Tryz.prog = fun W => .ok (.bool true) W := by
          funext W
          cases gg <;> go_simp
        go_upto_region 31 with fail
        refine wp_region_lit ?_
        refine fl_start ?_
        generalize ha : Act.mk _ _ = a0
        have hn : a0.tmps.size = 79 := by rw [← ha]; kernel_rfl
        have h5 : (fr a0 []).eval (.tmp 5) = .pointer (some ⟨b, 0, none⟩) := by rw [← ha]; kernel_rfl
        refine fl_know hn rfl h5 ?_
        clear h5
        have h9 : (fr a0 [(5, true, .pointer (some ⟨b, 0, none⟩))]).eval (.tmp 9) = .bool gg := by rw [← ha]; kernel_rfl
        refine fl_know hn rfl h9 ?_
        clear h9
        refine g_ldA hn HX6.out ?_
        refine g_c1w enters_ltGood hn (ltGood_any (lk3 m) hn0 _ HR.out (Nat.le_refl _) HF.out) ?_
        intro w9 hb9
        rw [hgg]
        have bw : ((do eqGuard .eql 4 (.tmp 76) (.tmp 77) (.bool gg) (.bool gg); binOp .eql 4 (.bool gg) (.bool gg)) : Sem Value).run Tryz.prog w9 = .ok (.bool true) w9 := by rw [beqv]
        repeat first | refine g_mv hn ?_ | refine g_as hn ?_ | refine g_fd hn ?_ | refine g_ld hn ?_ | refine g_nc hn ?_ | refine g_nt hn ?_ | refine g_an hn ?_ | refine g_or hn ?_ | refine g_ln hn ?_ | refine g_ex hn ?_ | refine g_neq2 hn ?_ | refine g_neq hn ?_ | refine g_eql2 hn ?_ | refine g_eql hn ?_ | refine g_leq2 hn ?_ | refine g_leq hn ?_ | refine g_lss2 hn ?_ | refine g_lss hn ?_ | refine g_gtr2 hn ?_ | refine g_gtr hn ?_ | refine g_geq2 hn ?_ | refine g_geq hn ?_ | refine g_b0 hn ?_ | refine g_bn hn ?_ | refine g_bc hn ?_ | refine g_cv hn ?_ | refine g_ac hn ?_ | refine g_mc hn ?_
        refine fl_end ?_
        clear hn bw beqv
        subst ha
        dsimp only [fr, cnd, Act.put, cond_true]
        simp only [List.setIfInBounds_toArray, List.set_cons_zero, List.set_cons_succ]
        go_wp2_with fail
        go_ret
        exact ⟨rfl, bt HB.out hb9⟩
  · have c8 : ((do eqGuard .rem 5 (.tmp 26) (.const (.int .u8 8)) (.int .u8 f) (.int .u8 8); binOp .rem 5 (.int .u8 f) (.int .u8 8)) : Sem Value).run Tryz.prog w5 = .ok (.int .u8 4) w5 := by
      have e1 : f.tmod 8 = 4 := hft
      go_simp
    go_upto_region 6 with fail
    refine wp_region_lit ?_
    refine fl_start ?_
    generalize ha : Act.mk _ _ = a0
    have hn : a0.tmps.size = 79 := by rw [← ha]; kernel_rfl
    have h1 : (fr a0 []).eval (.tmp 1) = .int .u8 f := by rw [← ha]; kernel_rfl
    refine fl_know hn rfl h1 ?_
    clear h1
    refine g_mv hn ?_
    refine g_bc hn ?_
    refine g_o1 (i := 27) (vi := .int .u8 4) (v := .int .u8 87) hn (fun ρ h1 hc => by unfold execOp; dsimp only; rw [h1, hc, Sem.run_bind, one_4]; rfl) ?_
    refine g_as hn ?_
    refine fl_end ?_
    clear hn c8
    subst ha
    dsimp only [fr, cnd, Act.put, cond_true]
    simp only [List.setIfInBounds_toArray, List.set_cons_zero, List.set_cons_succ]
    go_upto_region 17 with fail
    refine wp_region_lit ?_
    refine fl_start ?_
    generalize ha : Act.mk _ _ = a0
    have hn : a0.tmps.size = 79 := by rw [← ha]; kernel_rfl
    have h5 : (fr a0 []).eval (.tmp 5) = .pointer (some ⟨b, 0, none⟩) := by rw [← ha]; kernel_rfl
    refine fl_know hn rfl h5 ?_
    clear h5
    have h6 : (fr a0 [(5, true, .pointer (some ⟨b, 0, none⟩))]).eval (.tmp 6) = .pointer (some ⟨c, 0, none⟩) := by rw [← ha]; kernel_rfl
    refine fl_know hn rfl h6 ?_
    clear h6
    have ly : (Instr.loadAt 47 (.pointer (some ⟨c, 0, none⟩))).run Tryz.prog w5 = .ok (.agg ((⟨1, 1, 2, ⟨#[107]⟩, 0, 0, ⟨#[]⟩, 0, 0, ⟨#[]⟩⟩ : Wr)).cells) w5 := ld_wr hY5
    refine g_ld hn ?_
    refine g_w hn (w2 := w5.alloc (.cells ((⟨1, 1, 2, ⟨#[107]⟩, 0, 0, ⟨#[]⟩, 0, 0, ⟨#[]⟩⟩ : Wr)).cells 47)) (v := .slice (some ⟨w5.heap.size, 0, none⟩) 1 1) (fun hk => by unfold execOp; dsimp only; simp only [List.map_toArray, List.map_cons, List.map_nil, lk_at hk (i := 45) rfl (fun _ => rfl) rfl]; kernel_rfl) ?_
    have hX8 := (HX.out).alloc (.cells ((⟨1, 1, 2, ⟨#[107]⟩, 0, 0, ⟨#[]⟩, 0, 0, ⟨#[]⟩⟩ : Wr)).cells 47)
    have hZ8 := blk_new w5 ((⟨1, 1, 2, ⟨#[107]⟩, 0, 0, ⟨#[]⟩, 0, 0, ⟨#[]⟩⟩ : Wr)).cells 47
    have hB8 := bt HB5.out (b0 w5 (.cells ((⟨1, 1, 2, ⟨#[107]⟩, 0, 0, ⟨#[]⟩, 0, 0, ⟨#[]⟩⟩ : Wr)).cells 47))
    have hbg : b < w5.heap.size := (HX.out).lt
    generalize w5.alloc (.cells ((⟨1, 1, 2, ⟨#[107]⟩, 0, 0, ⟨#[]⟩, 0, 0, ⟨#[]⟩⟩ : Wr)).cells 47) = w8 at hX8 hZ8 hB8 ⊢
    generalize w5.heap.size = g at hZ8 hbg ⊢
    refine g_fdL hn ?_
    refine g_stt hX8 (st_kW (j := 14) hX8 (by simp) (some ⟨g, 0, none⟩) 1 1) ?_
    intro w6 ho hX6
    simp only [List.setIfInBounds_toArray, List.set_cons_zero, List.set_cons_succ] at hX6
    have hZ6 := hZ8.only ho (by omega)
    have HX6 : Hid (Blk w6 b (ltI (lk4 m) (hnk4 g)) 58) := hX6
    have hR6 := ltR_4 m hZ6
    have hF6 := ltF_4 m
    have hB6 := hB8.trans (ho.below hlb)
    refine fl_end ?_
    clear hn
    subst ha
    dsimp only [fr, cnd, Act.put, cond_true]
    simp only [List.setIfInBounds_toArray, List.set_cons_zero, List.set_cons_succ]
    have HR := Lib.hid hR6
    have HF := Lib.hid hF6
    have HB := Lib.hid hB6
    have HGj := HG4.out
    clear HX hB6 hR6 hF6 hX6 ho
    go_upto_region 26 with fail
    go_wp2_with fail
    go_loopw [9, 10, 63] (fun v _ i wr => ∃ k : Nat, k ≤ us.length ∧ i = .int .i64 k ∧ v = .bool ((us.take k).any (· == 87)) ∧ wr = w6) (fun _ _ i _ => us.length - (intOf i).toNat)
    case atStart => exact ⟨0, Nat.zero_le _, rfl, rfl, rfl⟩
    case round =>
      obtain ⟨k, hk, rfl, rfl, rfl⟩ := hrel
      have hsz := HU.out
      have hu5 := H5.out
      by_cases hlt : k < us.length
      · obtain ⟨x, hx⟩ : ∃ x, us[k]? = some x := ⟨_, List.getElem?_eq_getElem hlt⟩
        have i2 : (k : Int) < (S.size : Int) := by omega
        have HT := Lib.hid (take_eq (c := 87) hx)
        have hix := HI.out k x hx wr
        have ceq : ((do eqGuard .eql 5 (.tmp 70) (.tmp 71) (.int .u8 (x.toNat : Int)) (.int .u8 87); binOp .eql 5 (.int .u8 (x.toNat : Int)) (.int .u8 87)) : Sem Value).run Tryz.prog wr = .ok (.bool (x == 87)) wr := by
          have e : ((x.toNat : Int) == 87) = (x == 87) := by
            rw [Bool.eq_iff_iff, beq_iff_eq, beq_iff_eq, ← UInt8.toNat_inj]
            show _ ↔ x.toNat = 87
            omega
          clear hx hix
          go_simp
        clear hx
        generalize (us.take k).any (· == 87) = a at HT ⊢
        go_upto_region 29 with fail
        refine wp_region_lit ?_
        refine fl_start ?_
        generalize ha : Act.mk _ _ = a0
        have hn : a0.tmps.size = 79 := by rw [← ha]; kernel_rfl
        have h9 : (fr a0 []).eval (.tmp 9) = .bool a := by rw [← ha]; kernel_rfl
        refine fl_know hn rfl h9 ?_
        clear h9
        have h7 : (fr a0 [(9, true, .bool a)]).eval (.tmp 7) = .string S := by rw [← ha]; kernel_rfl
        refine fl_know hn rfl h7 ?_
        clear h7
        have h10 : (fr a0 [(7, true, .string S), (9, true, .bool a)]).eval (.tmp 10) = .int .i64 (k : Int) := by rw [← ha]; kernel_rfl
        refine fl_know hn rfl h10 ?_
        clear h10
        have h8 : (fr a0 [(10, true, .int .i64 (k : Int)), (7, true, .string S), (9, true, .bool a)]).eval (.tmp 8) = .int .u8 87 := by rw [← ha]; kernel_rfl
        refine fl_know hn rfl h8 ?_
        clear h8
        repeat first | refine g_mv hn ?_ | refine g_as hn ?_ | refine g_fd hn ?_ | refine g_ld hn ?_ | refine g_nc hn ?_ | refine g_nt hn ?_ | refine g_an hn ?_ | refine g_or hn ?_ | refine g_ln hn ?_ | refine g_ex hn ?_ | refine g_neq2 hn ?_ | refine g_neq hn ?_ | refine g_eql2 hn ?_ | refine g_eql hn ?_ | refine g_leq2 hn ?_ | refine g_leq hn ?_ | refine g_lss2 hn ?_ | refine g_lss hn ?_ | refine g_gtr2 hn ?_ | refine g_gtr hn ?_ | refine g_geq2 hn ?_ | refine g_geq hn ?_ | refine g_b0 hn ?_ | refine g_bn hn ?_ | refine g_bc hn ?_ | refine g_cv hn ?_ | refine g_ac hn ?_ | refine g_mc hn ?_
        refine g_o2 (i := 68) (j := 69) (vi := .string S) (vj := .int .i64 (k : Int)) (v := .int .u8 (x.toNat : Int)) hn (fun ρ h1 h2 _ => by unfold execOp; dsimp only; rw [h1, h2, Sem.run_bind, hix]; rfl) ?_
        repeat first | refine g_mv hn ?_ | refine g_as hn ?_ | refine g_fd hn ?_ | refine g_ld hn ?_ | refine g_nc hn ?_ | refine g_nt hn ?_ | refine g_an hn ?_ | refine g_or hn ?_ | refine g_ln hn ?_ | refine g_ex hn ?_ | refine g_neq2 hn ?_ | refine g_neq hn ?_ | refine g_eql2 hn ?_ | refine g_eql hn ?_ | refine g_leq2 hn ?_ | refine g_leq hn ?_ | refine g_lss2 hn ?_ | refine g_lss hn ?_ | refine g_gtr2 hn ?_ | refine g_gtr hn ?_ | refine g_geq2 hn ?_ | refine g_geq hn ?_ | refine g_b0 hn ?_ | refine g_bn hn ?_ | refine g_bc hn ?_ | refine g_cv hn ?_ | refine g_ac hn ?_ | refine g_mc hn ?_
        refine fl_end ?_
        clear hn ceq hix
        subst ha
        dsimp only [fr, cnd, Act.put, cond_true]
        simp only [List.setIfInBounds_toArray, List.set_cons_zero, List.set_cons_succ]
        go_wp2_with fail
        go_roundw
        case rel => exact ⟨k + 1, by omega, by go_num, by rw [← HT.out], by first | rfl | trivial⟩
        case measure => simp [intOf]; omega
      · have ek : k = us.length := by omega
        subst ek
        have i2 : ¬ (us.length : Int) < (S.size : Int) := by omega
        rw [List.take_length, ← HGj]
        have hv : goodLt (lk4 m) = goodLt (lk4 m) := rfl
        generalize hgg : goodLt (lk4 m) = gg
        have beqv : ((do eqGuard .eql 4 (.tmp 76) (.tmp 77) (.bool gg) (.bool gg); binOp .eql 4 (.bool gg) (.bool gg)) : Sem Value).run Tryz.prog = fun W => .ok (.bool true) W := by
          funext W
          cases gg <;> go_simp
        go_upto_region 31 with fail
        refine wp_region_lit ?_
        refine fl_start ?_
        generalize ha : Act.mk _ _ = a0
        have hn : a0.tmps.size = 79 := by rw [← ha]; kernel_rfl
        have h5 : (fr a0 []).eval (.tmp 5) = .pointer (some ⟨b, 0, none⟩) := by rw [← ha]; kernel_rfl
        refine fl_know hn rfl h5 ?_
        clear h5
        have h9 : (fr a0 [(5, true, .pointer (some ⟨b, 0, none⟩))]).eval (.tmp 9) = .bool gg := by rw [← ha]; kernel_rfl
        refine fl_know hn rfl h9 ?_
        clear h9
        refine g_ldA hn HX6.out ?_
        refine g_c1w enters_ltGood hn (ltGood_any (lk4 m) (hnk4 g) _ HR.out (Nat.le_refl _) HF.out) ?_
        intro w9 hb9
        rw [hgg]
        have bw : ((do eqGuard .eql 4 (.tmp 76) (.tmp 77) (.bool gg) (.bool gg); binOp .eql 4 (.bool gg) (.bool gg)) : Sem Value).run Tryz.prog w9 = .ok (.bool true) w9 := by rw [beqv]
        repeat first | refine g_mv hn ?_ | refine g_as hn ?_ | refine g_fd hn ?_ | refine g_ld hn ?_ | refine g_nc hn ?_ | refine g_nt hn ?_ | refine g_an hn ?_ | refine g_or hn ?_ | refine g_ln hn ?_ | refine g_ex hn ?_ | refine g_neq2 hn ?_ | refine g_neq hn ?_ | refine g_eql2 hn ?_ | refine g_eql hn ?_ | refine g_leq2 hn ?_ | refine g_leq hn ?_ | refine g_lss2 hn ?_ | refine g_lss hn ?_ | refine g_gtr2 hn ?_ | refine g_gtr hn ?_ | refine g_geq2 hn ?_ | refine g_geq hn ?_ | refine g_b0 hn ?_ | refine g_bn hn ?_ | refine g_bc hn ?_ | refine g_cv hn ?_ | refine g_ac hn ?_ | refine g_mc hn ?_
        refine fl_end ?_
        clear hn bw beqv
        subst ha
        dsimp only [fr, cnd, Act.put, cond_true]
        simp only [List.setIfInBounds_toArray, List.set_cons_zero, List.set_cons_succ]
        go_wp2_with fail
        go_ret
        exact ⟨rfl, bt HB.out hb9⟩
  · have c8 : ((do eqGuard .rem 5 (.tmp 26) (.const (.int .u8 8)) (.int .u8 f) (.int .u8 8); binOp .rem 5 (.int .u8 f) (.int .u8 8)) : Sem Value).run Tryz.prog w5 = .ok (.int .u8 5) w5 := by
      have e1 : f.tmod 8 = 5 := hft
      go_simp
    go_upto_region 6 with fail
    refine wp_region_lit ?_
    refine fl_start ?_
    generalize ha : Act.mk _ _ = a0
    have hn : a0.tmps.size = 79 := by rw [← ha]; kernel_rfl
    have h1 : (fr a0 []).eval (.tmp 1) = .int .u8 f := by rw [← ha]; kernel_rfl
    refine fl_know hn rfl h1 ?_
    clear h1
    refine g_mv hn ?_
    refine g_bc hn ?_
    refine g_o1 (i := 27) (vi := .int .u8 5) (v := .int .u8 84) hn (fun ρ h1 hc => by unfold execOp; dsimp only; rw [h1, hc, Sem.run_bind, one_5]; rfl) ?_
    refine g_as hn ?_
    refine fl_end ?_
    clear hn c8
    subst ha
    dsimp only [fr, cnd, Act.put, cond_true]
    simp only [List.setIfInBounds_toArray, List.set_cons_zero, List.set_cons_succ]
    go_upto_region 19 with fail
    refine wp_region_lit ?_
    refine fl_start ?_
    generalize ha : Act.mk _ _ = a0
    have hn : a0.tmps.size = 79 := by rw [← ha]; kernel_rfl
    have h5 : (fr a0 []).eval (.tmp 5) = .pointer (some ⟨b, 0, none⟩) := by rw [← ha]; kernel_rfl
    refine fl_know hn rfl h5 ?_
    clear h5
    have h6 : (fr a0 [(5, true, .pointer (some ⟨b, 0, none⟩))]).eval (.tmp 6) = .pointer (some ⟨c, 0, none⟩) := by rw [← ha]; kernel_rfl
    refine fl_know hn rfl h6 ?_
    clear h6
    refine g_fdL hn ?_
    refine g_stc HX.out (st_int (j := 9) HX.out (by simp) 5) ?_
    intro w6 ho hX6
    simp only [List.setIfInBounds_toArray, List.set_cons_zero, List.set_cons_succ] at hX6
    have HX6 : Hid (Blk w6 b (ltI (lk5 m) hn0) 58) := hX6
    have hR6 := ltR_nil w6.heap.size w6 (lk5 m) rfl rfl rfl rfl
    have hF6 := ltF_nil (lk5 m) rfl rfl rfl rfl
    have hB6 := HB5.out.trans (ho.below hlb)
    refine fl_end ?_
    clear hn
    subst ha
    dsimp only [fr, cnd, Act.put, cond_true]
    simp only [List.setIfInBounds_toArray, List.set_cons_zero, List.set_cons_succ]
    have HR := Lib.hid hR6
    have HF := Lib.hid hF6
    have HB := Lib.hid hB6
    have HGj := HG5.out
    clear HX hB6 hR6 hF6 hX6 ho
    go_upto_region 26 with fail
    go_wp2_with fail
    go_loopw [9, 10, 63] (fun v _ i wr => ∃ k : Nat, k ≤ us.length ∧ i = .int .i64 k ∧ v = .bool ((us.take k).any (· == 84)) ∧ wr = w6) (fun _ _ i _ => us.length - (intOf i).toNat)
    case atStart => exact ⟨0, Nat.zero_le _, rfl, rfl, rfl⟩
    case round =>
      obtain ⟨k, hk, rfl, rfl, rfl⟩ := hrel
      have hsz := HU.out
      have hu5 := H5.out
      by_cases hlt : k < us.length
      · obtain ⟨x, hx⟩ : ∃ x, us[k]? = some x := ⟨_, List.getElem?_eq_getElem hlt⟩
        have i2 : (k : Int) < (S.size : Int) := by omega
        have HT := Lib.hid (take_eq (c := 84) hx)
        have hix := HI.out k x hx wr
        have ceq : ((do eqGuard .eql 5 (.tmp 70) (.tmp 71) (.int .u8 (x.toNat : Int)) (.int .u8 84); binOp .eql 5 (.int .u8 (x.toNat : Int)) (.int .u8 84)) : Sem Value).run Tryz.prog wr = .ok (.bool (x == 84)) wr := by
          have e : ((x.toNat : Int) == 84) = (x == 84) := by
            rw [Bool.eq_iff_iff, beq_iff_eq, beq_iff_eq, ← UInt8.toNat_inj]
            show _ ↔ x.toNat = 84
            omega
          clear hx hix
          go_simp
        clear hx
        generalize (us.take k).any (· == 84) = a at HT ⊢
        go_upto_region 29 with fail
        refine wp_region_lit ?_
        refine fl_start ?_
        generalize ha : Act.mk _ _ = a0
        have hn : a0.tmps.size = 79 := by rw [← ha]; kernel_rfl
        have h9 : (fr a0 []).eval (.tmp 9) = .bool a := by rw [← ha]; kernel_rfl
        refine fl_know hn rfl h9 ?_
        clear h9
        have h7 : (fr a0 [(9, true, .bool a)]).eval (.tmp 7) = .string S := by rw [← ha]; kernel_rfl
        refine fl_know hn rfl h7 ?_
        clear h7
        have h10 : (fr a0 [(7, true, .string S), (9, true, .bool a)]).eval (.tmp 10) = .int .i64 (k : Int) := by rw [← ha]; kernel_rfl
        refine fl_know hn rfl h10 ?_
        clear h10
        have h8 : (fr a0 [(10, true, .int .i64 (k : Int)), (7, true, .string S), (9, true, .bool a)]).eval (.tmp 8) = .int .u8 84 := by rw [← ha]; kernel_rfl
        refine fl_know hn rfl h8 ?_
        clear h8
        repeat first | refine g_mv hn ?_ | refine g_as hn ?_ | refine g_fd hn ?_ | refine g_ld hn ?_ | refine g_nc hn ?_ | refine g_nt hn ?_ | refine g_an hn ?_ | refine g_or hn ?_ | refine g_ln hn ?_ | refine g_ex hn ?_ | refine g_neq2 hn ?_ | refine g_neq hn ?_ | refine g_eql2 hn ?_ | refine g_eql hn ?_ | refine g_leq2 hn ?_ | refine g_leq hn ?_ | refine g_lss2 hn ?_ | refine g_lss hn ?_ | refine g_gtr2 hn ?_ | refine g_gtr hn ?_ | refine g_geq2 hn ?_ | refine g_geq hn ?_ | refine g_b0 hn ?_ | refine g_bn hn ?_ | refine g_bc hn ?_ | refine g_cv hn ?_ | refine g_ac hn ?_ | refine g_mc hn ?_
        refine g_o2 (i := 68) (j := 69) (vi := .string S) (vj := .int .i64 (k : Int)) (v := .int .u8 (x.toNat : Int)) hn (fun ρ h1 h2 _ => by unfold execOp; dsimp only; rw [h1, h2, Sem.run_bind, hix]; rfl) ?_
        repeat first | refine g_mv hn ?_ | refine g_as hn ?_ | refine g_fd hn ?_ | refine g_ld hn ?_ | refine g_nc hn ?_ | refine g_nt hn ?_ | refine g_an hn ?_ | refine g_or hn ?_ | refine g_ln hn ?_ | refine g_ex hn ?_ | refine g_neq2 hn ?_ | refine g_neq hn ?_ | refine g_eql2 hn ?_ | refine g_eql hn ?_ | refine g_leq2 hn ?_ | refine g_leq hn ?_ | refine g_lss2 hn ?_ | refine g_lss hn ?_ | refine g_gtr2 hn ?_ | refine g_gtr hn ?_ | refine g_geq2 hn ?_ | refine g_geq hn ?_ | refine g_b0 hn ?_ | refine g_bn hn ?_ | refine g_bc hn ?_ | refine g_cv hn ?_ | refine g_ac hn ?_ | refine g_mc hn ?_
        refine fl_end ?_
        clear hn ceq hix
        subst ha
        dsimp only [fr, cnd, Act.put, cond_true]
        simp only [List.setIfInBounds_toArray, List.set_cons_zero, List.set_cons_succ]
        go_wp2_with fail
        go_roundw
        case rel => exact ⟨k + 1, by omega, by go_num, by rw [← HT.out], by first | rfl | trivial⟩
        case measure => simp [intOf]; omega
      · have ek : k = us.length := by omega
        subst ek
        have i2 : ¬ (us.length : Int) < (S.size : Int) := by omega
        rw [List.take_length, ← HGj]
        have hv : goodLt (lk5 m) = goodLt (lk5 m) := rfl
        generalize hgg : goodLt (lk5 m) = gg
        have beqv : ((do eqGuard .eql 4 (.tmp 76) (.tmp 77) (.bool gg) (.bool gg); binOp .eql 4 (.bool gg) (.bool gg)) : Sem Value).run Tryz.prog = fun W => .ok (.bool true) W := by
          funext W
          cases gg <;> go_simp
        go_upto_region 31 with fail
        refine wp_region_lit ?_
        refine fl_start ?_
        generalize ha : Act.mk _ _ = a0
        have hn : a0.tmps.size = 79 := by rw [← ha]; kernel_rfl
        have h5 : (fr a0 []).eval (.tmp 5) = .pointer (some ⟨b, 0, none⟩) := by rw [← ha]; kernel_rfl
        refine fl_know hn rfl h5 ?_
        clear h5
        have h9 : (fr a0 [(5, true, .pointer (some ⟨b, 0, none⟩))]).eval (.tmp 9) = .bool gg := by rw [← ha]; kernel_rfl
        refine fl_know hn rfl h9 ?_
        clear h9
        refine g_ldA hn HX6.out ?_
        refine g_c1w enters_ltGood hn (ltGood_any (lk5 m) hn0 _ HR.out (Nat.le_refl _) HF.out) ?_
        intro w9 hb9
        rw [hgg]
        have bw : ((do eqGuard .eql 4 (.tmp 76) (.tmp 77) (.bool gg) (.bool gg); binOp .eql 4 (.bool gg) (.bool gg)) : Sem Value).run Tryz.prog w9 = .ok (.bool true) w9 := by rw [beqv]
        repeat first | refine g_mv hn ?_ | refine g_as hn ?_ | refine g_fd hn ?_ | refine g_ld hn ?_ | refine g_nc hn ?_ | refine g_nt hn ?_ | refine g_an hn ?_ | refine g_or hn ?_ | refine g_ln hn ?_ | refine g_ex hn ?_ | refine g_neq2 hn ?_ | refine g_neq hn ?_ | refine g_eql2 hn ?_ | refine g_eql hn ?_ | refine g_leq2 hn ?_ | refine g_leq hn ?_ | refine g_lss2 hn ?_ | refine g_lss hn ?_ | refine g_gtr2 hn ?_ | refine g_gtr hn ?_ | refine g_geq2 hn ?_ | refine g_geq hn ?_ | refine g_b0 hn ?_ | refine g_bn hn ?_ | refine g_bc hn ?_ | refine g_cv hn ?_ | refine g_ac hn ?_ | refine g_mc hn ?_
        refine fl_end ?_
        clear hn bw beqv
        subst ha
        dsimp only [fr, cnd, Act.put, cond_true]
        simp only [List.setIfInBounds_toArray, List.set_cons_zero, List.set_cons_succ]
        go_wp2_with fail
        go_ret
        exact ⟨rfl, bt HB.out hb9⟩
  · have c8 : ((do eqGuard .rem 5 (.tmp 26) (.const (.int .u8 8)) (.int .u8 f) (.int .u8 8); binOp .rem 5 (.int .u8 f) (.int .u8 8)) : Sem Value).run Tryz.prog w5 = .ok (.int .u8 6) w5 := by
      have e1 : f.tmod 8 = 6 := hft
      go_simp
    go_upto_region 6 with fail
    refine wp_region_lit ?_
    refine fl_start ?_
    generalize ha : Act.mk _ _ = a0
    have hn : a0.tmps.size = 79 := by rw [← ha]; kernel_rfl
    have h1 : (fr a0 []).eval (.tmp 1) = .int .u8 f := by rw [← ha]; kernel_rfl
    refine fl_know hn rfl h1 ?_
    clear h1
    refine g_mv hn ?_
    refine g_bc hn ?_
    refine g_o1 (i := 27) (vi := .int .u8 6) (v := .int .u8 69) hn (fun ρ h1 hc => by unfold execOp; dsimp only; rw [h1, hc, Sem.run_bind, one_6]; rfl) ?_
    refine g_as hn ?_
    refine fl_end ?_
    clear hn c8
    subst ha
    dsimp only [fr, cnd, Act.put, cond_true]
    simp only [List.setIfInBounds_toArray, List.set_cons_zero, List.set_cons_succ]
    go_upto_region 21 with fail
    refine wp_region_lit ?_
    refine fl_start ?_
    generalize ha : Act.mk _ _ = a0
    have hn : a0.tmps.size = 79 := by rw [← ha]; kernel_rfl
    have h5 : (fr a0 []).eval (.tmp 5) = .pointer (some ⟨b, 0, none⟩) := by rw [← ha]; kernel_rfl
    refine fl_know hn rfl h5 ?_
    clear h5
    have h6 : (fr a0 [(5, true, .pointer (some ⟨b, 0, none⟩))]).eval (.tmp 6) = .pointer (some ⟨c, 0, none⟩) := by rw [← ha]; kernel_rfl
    refine fl_know hn rfl h6 ?_
    clear h6
    refine g_fdL hn ?_
    refine g_stc HX.out (st_int (j := 11) HX.out (by simp) 5) ?_
    intro w6 ho hX6
    simp only [List.setIfInBounds_toArray, List.set_cons_zero, List.set_cons_succ] at hX6
    have HX6 : Hid (Blk w6 b (ltI (lk6 m) hn0) 58) := hX6
    have hR6 := ltR_nil w6.heap.size w6 (lk6 m) rfl rfl rfl rfl
    have hF6 := ltF_nil (lk6 m) rfl rfl rfl rfl
    have hB6 := HB5.out.trans (ho.below hlb)
    refine fl_end ?_
    clear hn
    subst ha
    dsimp only [fr, cnd, Act.put, cond_true]
    simp only [List.setIfInBounds_toArray, List.set_cons_zero, List.set_cons_succ]
    have HR := Lib.hid hR6
    have HF := Lib.hid hF6
    have HB := Lib.hid hB6
    have HGj := HG6.out
    clear HX hB6 hR6 hF6 hX6 ho
    go_upto_region 26 with fail
    go_wp2_with fail
    go_loopw [9, 10, 63] (fun v _ i wr => ∃ k : Nat, k ≤ us.length ∧ i = .int .i64 k ∧ v = .bool ((us.take k).any (· == 69)) ∧ wr = w6) (fun _ _ i _ => us.length - (intOf i).toNat)
    case atStart => exact ⟨0, Nat.zero_le _, rfl, rfl, rfl⟩
    case round =>
      obtain ⟨k, hk, rfl, rfl, rfl⟩ := hrel
      have hsz := HU.out
      have hu5 := H5.out
      by_cases hlt : k < us.length
      · obtain ⟨x, hx⟩ : ∃ x, us[k]? = some x := ⟨_, List.getElem?_eq_getElem hlt⟩
        have i2 : (k : Int) < (S.size : Int) := by omega
        have HT := Lib.hid (take_eq (c := 69) hx)
        have hix := HI.out k x hx wr
        have ceq : ((do eqGuard .eql 5 (.tmp 70) (.tmp 71) (.int .u8 (x.toNat : Int)) (.int .u8 69); binOp .eql 5 (.int .u8 (x.toNat : Int)) (.int .u8 69)) : Sem Value).run Tryz.prog wr = .ok (.bool (x == 69)) wr := by
          have e : ((x.toNat : Int) == 69) = (x == 69) := by
            rw [Bool.eq_iff_iff, beq_iff_eq, beq_iff_eq, ← UInt8.toNat_inj]
            show _ ↔ x.toNat = 69
            omega
          clear hx hix
          go_simp
        clear hx
        generalize (us.take k).any (· == 69) = a at HT ⊢
        go_upto_region 29 with fail
        refine wp_region_lit ?_
        refine fl_start ?_
        generalize ha : Act.mk _ _ = a0
        have hn : a0.tmps.size = 79 := by rw [← ha]; kernel_rfl
        have h9 : (fr a0 []).eval (.tmp 9) = .bool a := by rw [← ha]; kernel_rfl
        refine fl_know hn rfl h9 ?_
        clear h9
        have h7 : (fr a0 [(9, true, .bool a)]).eval (.tmp 7) = .string S := by rw [← ha]; kernel_rfl
        refine fl_know hn rfl h7 ?_
        clear h7
        have h10 : (fr a0 [(7, true, .string S), (9, true, .bool a)]).eval (.tmp 10) = .int .i64 (k : Int) := by rw [← ha]; kernel_rfl
        refine fl_know hn rfl h10 ?_
        clear h10
        have h8 : (fr a0 [(10, true, .int .i64 (k : Int)), (7, true, .string S), (9, true, .bool a)]).eval (.tmp 8) = .int .u8 69 := by rw [← ha]; kernel_rfl
        refine fl_know hn rfl h8 ?_
        clear h8
        repeat first | refine g_mv hn ?_ | refine g_as hn ?_ | refine g_fd hn ?_ | refine g_ld hn ?_ | refine g_nc hn ?_ | refine g_nt hn ?_ | refine g_an hn ?_ | refine g_or hn ?_ | refine g_ln hn ?_ | refine g_ex hn ?_ | refine g_neq2 hn ?_ | refine g_neq hn ?_ | refine g_eql2 hn ?_ | refine g_eql hn ?_ | refine g_leq2 hn ?_ | refine g_leq hn ?_ | refine g_lss2 hn ?_ | refine g_lss hn ?_ | refine g_gtr2 hn ?_ | refine g_gtr hn ?_ | refine g_geq2 hn ?_ | refine g_geq hn ?_ | refine g_b0 hn ?_ | refine g_bn hn ?_ | refine g_bc hn ?_ | refine g_cv hn ?_ | refine g_ac hn ?_ | refine g_mc hn ?_
        refine g_o2 (i := 68) (j := 69) (vi := .string S) (vj := .int .i64 (k : Int)) (v := .int .u8 (x.toNat : Int)) hn (fun ρ h1 h2 _ => by unfold execOp; dsimp only; rw [h1, h2, Sem.run_bind, hix]; rfl) ?_
        repeat first | refine g_mv hn ?_ | refine g_as hn ?_ | refine g_fd hn ?_ | refine g_ld hn ?_ | refine g_nc hn ?_ | refine g_nt hn ?_ | refine g_an hn ?_ | refine g_or hn ?_ | refine g_ln hn ?_ | refine g_ex hn ?_ | refine g_neq2 hn ?_ | refine g_neq hn ?_ | refine g_eql2 hn ?_ | refine g_eql hn ?_ | refine g_leq2 hn ?_ | refine g_leq hn ?_ | refine g_lss2 hn ?_ | refine g_lss hn ?_ | refine g_gtr2 hn ?_ | refine g_gtr hn ?_ | refine g_geq2 hn ?_ | refine g_geq hn ?_ | refine g_b0 hn ?_ | refine g_bn hn ?_ | refine g_bc hn ?_ | refine g_cv hn ?_ | refine g_ac hn ?_ | refine g_mc hn ?_
        refine fl_end ?_
        clear hn ceq hix
        subst ha
        dsimp only [fr, cnd, Act.put, cond_true]
        simp only [List.setIfInBounds_toArray, List.set_cons_zero, List.set_cons_succ]
        go_wp2_with fail
        go_roundw
        case rel => exact ⟨k + 1, by omega, by go_num, by rw [← HT.out], by first | rfl | trivial⟩
        case measure => simp [intOf]; omega
      · have ek : k = us.length := by omega
        subst ek
        have i2 : ¬ (us.length : Int) < (S.size : Int) := by omega
        rw [List.take_length, ← HGj]
        have hv : goodLt (lk6 m) = goodLt (lk6 m) := rfl
        generalize hgg : goodLt (lk6 m) = gg
        have beqv : ((do eqGuard .eql 4 (.tmp 76) (.tmp 77) (.bool gg) (.bool gg); binOp .eql 4 (.bool gg) (.bool gg)) : Sem Value).run Tryz.prog = fun W => .ok (.bool true) W := by
          funext W
          cases gg <;> go_simp
        go_upto_region 31 with fail
        refine wp_region_lit ?_
        refine fl_start ?_
        generalize ha : Act.mk _ _ = a0
        have hn : a0.tmps.size = 79 := by rw [← ha]; kernel_rfl
        have h5 : (fr a0 []).eval (.tmp 5) = .pointer (some ⟨b, 0, none⟩) := by rw [← ha]; kernel_rfl
        refine fl_know hn rfl h5 ?_
        clear h5
        have h9 : (fr a0 [(5, true, .pointer (some ⟨b, 0, none⟩))]).eval (.tmp 9) = .bool gg := by rw [← ha]; kernel_rfl
        refine fl_know hn rfl h9 ?_
        clear h9
        refine g_ldA hn HX6.out ?_
        refine g_c1w enters_ltGood hn (ltGood_any (lk6 m) hn0 _ HR.out (Nat.le_refl _) HF.out) ?_
        intro w9 hb9
        rw [hgg]
        have bw : ((do eqGuard .eql 4 (.tmp 76) (.tmp 77) (.bool gg) (.bool gg); binOp .eql 4 (.bool gg) (.bool gg)) : Sem Value).run Tryz.prog w9 = .ok (.bool true) w9 := by rw [beqv]
        repeat first | refine g_mv hn ?_ | refine g_as hn ?_ | refine g_fd hn ?_ | refine g_ld hn ?_ | refine g_nc hn ?_ | refine g_nt hn ?_ | refine g_an hn ?_ | refine g_or hn ?_ | refine g_ln hn ?_ | refine g_ex hn ?_ | refine g_neq2 hn ?_ | refine g_neq hn ?_ | refine g_eql2 hn ?_ | refine g_eql hn ?_ | refine g_leq2 hn ?_ | refine g_leq hn ?_ | refine g_lss2 hn ?_ | refine g_lss hn ?_ | refine g_gtr2 hn ?_ | refine g_gtr hn ?_ | refine g_geq2 hn ?_ | refine g_geq hn ?_ | refine g_b0 hn ?_ | refine g_bn hn ?_ | refine g_bc hn ?_ | refine g_cv hn ?_ | refine g_ac hn ?_ | refine g_mc hn ?_
        refine fl_end ?_
        clear hn bw beqv
        subst ha
        dsimp only [fr, cnd, Act.put, cond_true]
        simp only [List.setIfInBounds_toArray, List.set_cons_zero, List.set_cons_succ]
        go_wp2_with fail
        go_ret
        exact ⟨rfl, bt HB.out hb9⟩
  · have c8 : ((do eqGuard .rem 5 (.tmp 26) (.const (.int .u8 8)) (.int .u8 f) (.int .u8 8); binOp .rem 5 (.int .u8 f) (.int .u8 8)) : Sem Value).run Tryz.prog w5 = .ok (.int .u8 7) w5 := by
      have e1 : f.tmod 8 = 7 := hft
      go_simp
    go_upto_region 6 with fail
    refine wp_region_lit ?_
    refine fl_start ?_
    generalize ha : Act.mk _ _ = a0
    have hn : a0.tmps.size = 79 := by rw [← ha]; kernel_rfl
    have h1 : (fr a0 []).eval (.tmp 1) = .int .u8 f := by rw [← ha]; kernel_rfl
    refine fl_know hn rfl h1 ?_
    clear h1
    refine g_mv hn ?_
    refine g_bc hn ?_
    refine g_o1 (i := 27) (vi := .int .u8 7) (v := .int .u8 67) hn (fun ρ h1 hc => by unfold execOp; dsimp only; rw [h1, hc, Sem.run_bind, one_7]; rfl) ?_
    refine g_as hn ?_
    refine fl_end ?_
    clear hn c8
    subst ha
    dsimp only [fr, cnd, Act.put, cond_true]
    simp only [List.setIfInBounds_toArray, List.set_cons_zero, List.set_cons_succ]
    go_upto_region 23 with fail
    refine wp_region_lit ?_
    refine fl_start ?_
    generalize ha : Act.mk _ _ = a0
    have hn : a0.tmps.size = 79 := by rw [← ha]; kernel_rfl
    have h5 : (fr a0 []).eval (.tmp 5) = .pointer (some ⟨b, 0, none⟩) := by rw [← ha]; kernel_rfl
    refine fl_know hn rfl h5 ?_
    clear h5
    have h6 : (fr a0 [(5, true, .pointer (some ⟨b, 0, none⟩))]).eval (.tmp 6) = .pointer (some ⟨c, 0, none⟩) := by rw [← ha]; kernel_rfl
    refine fl_know hn rfl h6 ?_
    clear h6
    refine g_fdL hn ?_
    refine g_stc HX.out (st_bool (j := 12) HX.out (by simp) true) ?_
    intro w7 ho7 hX7
    simp only [List.setIfInBounds_toArray, List.set_cons_zero, List.set_cons_succ] at hX7
    have hB7 := HB5.out.trans (ho7.below hlb)
    refine fl_end ?_
    clear hn
    subst ha
    dsimp only [fr, cnd, Act.put, cond_true]
    simp only [List.setIfInBounds_toArray, List.set_cons_zero, List.set_cons_succ]
    go_upto_region 24 with fail
    refine wp_region_lit ?_
    refine fl_start ?_
    generalize ha : Act.mk _ _ = a0
    have hn : a0.tmps.size = 79 := by rw [← ha]; kernel_rfl
    have h5 : (fr a0 []).eval (.tmp 5) = .pointer (some ⟨b, 0, none⟩) := by rw [← ha]; kernel_rfl
    refine fl_know hn rfl h5 ?_
    clear h5
    have h6 : (fr a0 [(5, true, .pointer (some ⟨b, 0, none⟩))]).eval (.tmp 6) = .pointer (some ⟨c, 0, none⟩) := by rw [← ha]; kernel_rfl
    refine fl_know hn rfl h6 ?_
    clear h6
    refine g_bd hn ?_ (qs := #[(0, .int .i64 1)]) (v := .agg #[.int .i64 1, .int .i64 0, .string ⟨#[]⟩]) (hx := by kernel_rfl)
    refine g_bd hn ?_ (qs := #[(0, .string ⟨#[97]⟩), (1, .agg #[.int .i64 1, .int .i64 0, .string ⟨#[]⟩])]) (v := .agg ((⟨⟨#[97]⟩, 1, 0, ⟨#[]⟩⟩ : Cl)).cells) (hx := by kernel_rfl) (hp := fun hk _ => by simp only [List.map_toArray, List.map_cons, List.map_nil, lk_at hk (i := 57) rfl (fun _ => rfl) rfl]; rfl)
    refine g_w hn (w2 := w7.alloc (.cells ((⟨⟨#[97]⟩, 1, 0, ⟨#[]⟩⟩ : Cl)).cells 61)) (v := .slice (some ⟨w7.heap.size, 0, none⟩) 1 1) (fun hk => by unfold execOp; dsimp only; simp only [List.map_toArray, List.map_cons, List.map_nil, lk_at hk (i := 58) rfl (fun _ => rfl) rfl]; kernel_rfl) ?_
    have hX8 := (hX7).alloc (.cells ((⟨⟨#[97]⟩, 1, 0, ⟨#[]⟩⟩ : Cl)).cells 61)
    have hZ8 := blk_new w7 ((⟨⟨#[97]⟩, 1, 0, ⟨#[]⟩⟩ : Cl)).cells 61
    have hB8 := bt hB7 (b0 w7 (.cells ((⟨⟨#[97]⟩, 1, 0, ⟨#[]⟩⟩ : Cl)).cells 61))
    have hbg : b < w7.heap.size := (hX7).lt
    generalize w7.alloc (.cells ((⟨⟨#[97]⟩, 1, 0, ⟨#[]⟩⟩ : Cl)).cells 61) = w8 at hX8 hZ8 hB8 ⊢
    generalize w7.heap.size = g at hZ8 hbg ⊢
    refine g_fdL hn ?_
    refine g_stt hX8 (st_kC (j := 16) hX8 (by simp) (some ⟨g, 0, none⟩) 1 1) ?_
    intro w6 ho hX6
    simp only [List.setIfInBounds_toArray, List.set_cons_zero, List.set_cons_succ] at hX6
    have hZ6 := hZ8.only ho (by omega)
    have HX6 : Hid (Blk w6 b (ltI (lk7 m) (hnk7 g)) 58) := hX6
    have hR6 := ltR_7 m hZ6
    have hF6 := ltF_7 m
    have hB6 := hB8.trans (ho.below hlb)
    refine fl_end ?_
    clear hn
    subst ha
    dsimp only [fr, cnd, Act.put, cond_true]
    simp only [List.setIfInBounds_toArray, List.set_cons_zero, List.set_cons_succ]
    have HR := Lib.hid hR6
    have HF := Lib.hid hF6
    have HB := Lib.hid hB6
    have HGj := HG7.out
    clear HX hB6 hR6 hF6 hX6 ho
    go_upto_region 26 with fail
    go_wp2_with fail
    go_loopw [9, 10, 63] (fun v _ i wr => ∃ k : Nat, k ≤ us.length ∧ i = .int .i64 k ∧ v = .bool ((us.take k).any (· == 67)) ∧ wr = w6) (fun _ _ i _ => us.length - (intOf i).toNat)
    case atStart => exact ⟨0, Nat.zero_le _, rfl, rfl, rfl⟩
    case round =>
      obtain ⟨k, hk, rfl, rfl, rfl⟩ := hrel
      have hsz := HU.out
      have hu5 := H5.out
      by_cases hlt : k < us.length
      · obtain ⟨x, hx⟩ : ∃ x, us[k]? = some x := ⟨_, List.getElem?_eq_getElem hlt⟩
        have i2 : (k : Int) < (S.size : Int) := by omega
        have HT := Lib.hid (take_eq (c := 67) hx)
        have hix := HI.out k x hx wr
        have ceq : ((do eqGuard .eql 5 (.tmp 70) (.tmp 71) (.int .u8 (x.toNat : Int)) (.int .u8 67); binOp .eql 5 (.int .u8 (x.toNat : Int)) (.int .u8 67)) : Sem Value).run Tryz.prog wr = .ok (.bool (x == 67)) wr := by
          have e : ((x.toNat : Int) == 67) = (x == 67) := by
            rw [Bool.eq_iff_iff, beq_iff_eq, beq_iff_eq, ← UInt8.toNat_inj]
            show _ ↔ x.toNat = 67
            omega
          clear hx hix
          go_simp
        clear hx
        generalize (us.take k).any (· == 67) = a at HT ⊢
        go_upto_region 29 with fail
        refine wp_region_lit ?_
        refine fl_start ?_
        generalize ha : Act.mk _ _ = a0
        have hn : a0.tmps.size = 79 := by rw [← ha]; kernel_rfl
        have h9 : (fr a0 []).eval (.tmp 9) = .bool a := by rw [← ha]; kernel_rfl
        refine fl_know hn rfl h9 ?_
        clear h9
        have h7 : (fr a0 [(9, true, .bool a)]).eval (.tmp 7) = .string S := by rw [← ha]; kernel_rfl
        refine fl_know hn rfl h7 ?_
        clear h7
        have h10 : (fr a0 [(7, true, .string S), (9, true, .bool a)]).eval (.tmp 10) = .int .i64 (k : Int) := by rw [← ha]; kernel_rfl
        refine fl_know hn rfl h10 ?_
        clear h10
        have h8 : (fr a0 [(10, true, .int .i64 (k : Int)), (7, true, .string S), (9, true, .bool a)]).eval (.tmp 8) = .int .u8 67 := by rw [← ha]; kernel_rfl
        refine fl_know hn rfl h8 ?_
        clear h8
        repeat first | refine g_mv hn ?_ | refine g_as hn ?_ | refine g_fd hn ?_ | refine g_ld hn ?_ | refine g_nc hn ?_ | refine g_nt hn ?_ | refine g_an hn ?_ | refine g_or hn ?_ | refine g_ln hn ?_ | refine g_ex hn ?_ | refine g_neq2 hn ?_ | refine g_neq hn ?_ | refine g_eql2 hn ?_ | refine g_eql hn ?_ | refine g_leq2 hn ?_ | refine g_leq hn ?_ | refine g_lss2 hn ?_ | refine g_lss hn ?_ | refine g_gtr2 hn ?_ | refine g_gtr hn ?_ | refine g_geq2 hn ?_ | refine g_geq hn ?_ | refine g_b0 hn ?_ | refine g_bn hn ?_ | refine g_bc hn ?_ | refine g_cv hn ?_ | refine g_ac hn ?_ | refine g_mc hn ?_
        refine g_o2 (i := 68) (j := 69) (vi := .string S) (vj := .int .i64 (k : Int)) (v := .int .u8 (x.toNat : Int)) hn (fun ρ h1 h2 _ => by unfold execOp; dsimp only; rw [h1, h2, Sem.run_bind, hix]; rfl) ?_
        repeat first | refine g_mv hn ?_ | refine g_as hn ?_ | refine g_fd hn ?_ | refine g_ld hn ?_ | refine g_nc hn ?_ | refine g_nt hn ?_ | refine g_an hn ?_ | refine g_or hn ?_ | refine g_ln hn ?_ | refine g_ex hn ?_ | refine g_neq2 hn ?_ | refine g_neq hn ?_ | refine g_eql2 hn ?_ | refine g_eql hn ?_ | refine g_leq2 hn ?_ | refine g_leq hn ?_ | refine g_lss2 hn ?_ | refine g_lss hn ?_ | refine g_gtr2 hn ?_ | refine g_gtr hn ?_ | refine g_geq2 hn ?_ | refine g_geq hn ?_ | refine g_b0 hn ?_ | refine g_bn hn ?_ | refine g_bc hn ?_ | refine g_cv hn ?_ | refine g_ac hn ?_ | refine g_mc hn ?_
        refine fl_end ?_
        clear hn ceq hix
        subst ha
        dsimp only [fr, cnd, Act.put, cond_true]
        simp only [List.setIfInBounds_toArray, List.set_cons_zero, List.set_cons_succ]
        go_wp2_with fail
        go_roundw
        case rel => exact ⟨k + 1, by omega, by go_num, by rw [← HT.out], by first | rfl | trivial⟩
        case measure => simp [intOf]; omega
      · have ek : k = us.length := by omega
        subst ek
        have i2 : ¬ (us.length : Int) < (S.size : Int) := by omega
        rw [List.take_length, ← HGj]
        have hv : goodLt (lk7 m) = goodLt (lk7 m) := rfl
        generalize hgg : goodLt (lk7 m) = gg
        have beqv : ((do eqGuard .eql 4 (.tmp 76) (.tmp 77) (.bool gg) (.bool gg); binOp .eql 4 (.bool gg) (.bool gg)) : Sem Value).run Tryz.prog = fun W => .ok (.bool true) W := by
          funext W
          cases gg <;> go_simp
        go_upto_region 31 with fail
        refine wp_region_lit ?_
        refine fl_start ?_
        generalize ha : Act.mk _ _ = a0
        have hn : a0.tmps.size = 79 := by rw [← ha]; kernel_rfl
        have h5 : (fr a0 []).eval (.tmp 5) = .pointer (some ⟨b, 0, none⟩) := by rw [← ha]; kernel_rfl
        refine fl_know hn rfl h5 ?_
        clear h5
        have h9 : (fr a0 [(5, true, .pointer (some ⟨b, 0, none⟩))]).eval (.tmp 9) = .bool gg := by rw [← ha]; kernel_rfl
        refine fl_know hn rfl h9 ?_
        clear h9
        refine g_ldA hn HX6.out ?_
        refine g_c1w enters_ltGood hn (ltGood_any (lk7 m) (hnk7 g) _ HR.out (Nat.le_refl _) HF.out) ?_
        intro w9 hb9
        rw [hgg]
        have bw : ((do eqGuard .eql 4 (.tmp 76) (.tmp 77) (.bool gg) (.bool gg); binOp .eql 4 (.bool gg) (.bool gg)) : Sem Value).run Tryz.prog w9 = .ok (.bool true) w9 := by rw [beqv]
        repeat first | refine g_mv hn ?_ | refine g_as hn ?_ | refine g_fd hn ?_ | refine g_ld hn ?_ | refine g_nc hn ?_ | refine g_nt hn ?_ | refine g_an hn ?_ | refine g_or hn ?_ | refine g_ln hn ?_ | refine g_ex hn ?_ | refine g_neq2 hn ?_ | refine g_neq hn ?_ | refine g_eql2 hn ?_ | refine g_eql hn ?_ | refine g_leq2 hn ?_ | refine g_leq hn ?_ | refine g_lss2 hn ?_ | refine g_lss hn ?_ | refine g_gtr2 hn ?_ | refine g_gtr hn ?_ | refine g_geq2 hn ?_ | refine g_geq hn ?_ | refine g_b0 hn ?_ | refine g_bn hn ?_ | refine g_bc hn ?_ | refine g_cv hn ?_ | refine g_ac hn ?_ | refine g_mc hn ?_
        refine fl_end ?_
        clear hn bw beqv
        subst ha
        dsimp only [fr, cnd, Act.put, cond_true]
        simp only [List.setIfInBounds_toArray, List.set_cons_zero, List.set_cons_succ]
        go_wp2_with fail
        go_ret
        exact ⟨rfl, bt HB.out hb9⟩
theorem lawKinds_all (kind : Int) (x : UInt8) (w : World) (_h : -9223372036854775808 ≤ kind ∧ kind ≤ 9223372036854775807) (hL : LaidF w) : Calls Tryz.prog 4 #[.int .i64 kind, .int .u8 (x.toNat : Int)] w fun e w' => e = .returned (.bool true) ∧ Below w.heap.size w w' :=
  lawKinds_any kind (x.toNat : Int) w hL (by omega)
end Go.Proofs.YtpjleeeligahaaaGreatDoor
