/-
  WHAT IS PROVED: package roll's calls that take lists from a reader (takeList, sound of each kind of element): what they answer, and leave of what the reader has. Conditions: those typed in each theorem.
-/
import Derived.Test.YtpjleeeligahaaaGreatDoorRPut
import Derived.Test.YtpjleeeligahaaaGreatDoorGQ12
namespace Go.Proofs.YtpjleeeligahaaaGreatDoor
open Go.RowKit

abbrev preC (x : List UInt8) : Array Value := #[.string ⟨x.toArray⟩]
abbrev preV (x : List UInt8) : Value := .string ⟨x.toArray⟩
abbrev preF (b : List UInt8) : List UInt8 × Nat := takeTextB b 20
abbrev preStep (st : Rest) : List UInt8 × Rest := textOf st 20
theorem pre_one (x : List UInt8) : ∀ u ∈ (preC x).toList, u.oneCell' = true := by
  intro u hu
  simp only [List.mem_cons, List.not_mem_nil, or_false] at hu
  rcases hu with rfl
  rfl
theorem cl_one (x : Cl) : ∀ u ∈ x.cells.toList, u.oneCell' = true := by
  intro u hu
  simp only [List.mem_cons, List.not_mem_nil, or_false] at hu
  rcases hu with rfl | rfl | rfl | rfl <;> rfl
theorem ln_one (x : Ln) : ∀ u ∈ x.cells.toList, u.oneCell' = true := by
  intro u hu
  simp only [List.mem_cons, List.not_mem_nil, or_false] at hu
  rcases hu with rfl | rfl | rfl | rfl | rfl | rfl | rfl | rfl | rfl | rfl | rfl <;> rfl
theorem cl_info : (Tryz.prog.info? 61).map (fun i => (i.zero, i.size, i.bytes)) = some (some (.agg (clI ⟨#[]⟩ 0 0 ⟨#[]⟩)), 4, 48) := by kernel_rfl
theorem ln_info : (Tryz.prog.info? 49).map (fun i => (i.zero, i.size, i.bytes)) = some (some (.agg (lnI 0 0 0 0 ⟨#[]⟩ 0 0 ⟨#[]⟩ 0 0 ⟨#[]⟩)), 11, 112) := by kernel_rfl
/-- A step leaves less. -/
def LessG {α : Type} (s : Rest → α × Rest) : Prop := ∀ b b', (s (some b)).2 = some b' → b'.length < b.length
theorem less_of {α : Type} {f : List UInt8 → α × Nat} {s : Rest → α × Rest} (h : StepG f s) (hf : ∀ b, (f b).2 ≤ b.length) : LessG s := by
  intro b b' hb
  by_cases h0 : (f b).2 = 0
  · rw [(h b).1 h0] at hb
    cases hb
  · rw [(h b).2 h0] at hb
    injection hb with hb
    have h1 := hf b
    rw [← hb, List.length_drop]
    omega
/-- How many there may be yet. -/
def roomG (k : Nat) : Rest → Prop
  | some b => k + b.length ≤ 1000000
  | none => k ≤ 1000001
theorem room_next {α : Type} {s : Rest → α × Rest} (h : LessG s) {k : Nat} {b : List UInt8} (hr : roomG k (some b)) {x : α} {st : Rest} (hs : s (some b) = (x, st)) : roomG (k + 1) st := by
  have hr' : k + b.length ≤ 1000000 := hr
  cases st with
  | none => show k + 1 ≤ 1000001; omega
  | some b' =>
    have := h b b' (by rw [hs])
    show k + 1 + b'.length ≤ 1000000
    omega
theorem room_le {k : Nat} {st : Rest} (h : roomG k st) : k ≤ 1000001 := by
  cases st with
  | none => exact h
  | some b =>
    have h' : k + b.length ≤ 1000000 := h
    omega
theorem numOf_short (st : Rest) (most : Nat) (b : List UInt8) (h : (numOf st most).2 = some b) : ∃ b0, st = some b0 ∧ b.length ≤ b0.length := by
  cases st with
  | none => cases h
  | some b0 =>
    refine ⟨b0, rfl, ?_⟩
    unfold numOf at h
    dsimp only at h
    split at h
    · cases h
    · injection h with h
      rw [← h, List.length_drop]
      omega
set_option maxRecDepth 100000 in
theorem failed_any (S : Addr) (g : Nat) (st : Rest) (w : World) (hR : RdrP S w g st) :
    Calls Tryz.prog 65 #[.pointer (some ⟨g, 0, none⟩)] w fun e w' => e = .returned (.bool st.isNone) ∧ w' = w := by
  cases st with
  | none =>
    obtain ⟨e1, he1, hb⟩ := hR
    obtain ⟨t1, v1, rfl⟩ := errP_nil he1
    have c1 := hb.cell 1
    go_enter Tryz.func65, Tryz.ntmps65
    go_wp2_with fail
    go_ret
    exact ⟨rfl, rfl⟩
  | some b =>
    obtain ⟨hl, s, hs, hb⟩ := hR
    have c1 := hb.cell 1
    go_enter Tryz.func65, Tryz.ntmps65
    go_wp2_with fail
    go_ret
    exact ⟨rfl, rfl⟩
theorem grown_then' {w a b : World} {row : Option Nat} (h : w.grownBy a row) (k : Below w.heap.size a b) : w.grownBy b row :=
  ⟨k.os.trans h.os, k.tape.trans h.tape, k.output.trans h.output, Nat.le_trans h.size k.size, fun i hi hr => (k.block i hi).trans (h.block i hi hr)⟩
theorem RdrP.belowX {S : Addr} {B : Nat} {W W' : World} {g : Nat} {st : Rest} (h : RdrP S W g st) (hb : Below B W W') (hg : g < B) : RdrP S W' g st := by
  cases st with
  | none => obtain ⟨e, he, hk⟩ := h; exact ⟨e, he, (hb.block g hg).trans hk⟩
  | some b => obtain ⟨hl, s, hs, hk⟩ := h; exact ⟨hl, s, hs, (hb.block g hg).trans hk⟩
/-- A function value that takes one thing from the reader at g. -/
def TakesF {α : Type} (S : Addr) (g gf : Nat) (lb : Array Value) (arg : α → Value) (s : Rest → α × Rest) (w : World) : Prop :=
  ∀ W st, w.grownBy W (some g) → RdrP S W g st → Calls Tryz.prog gf lb W fun e W' => e = .returned (arg (s st).1) ∧ RdrP S W' g (s st).2 ∧ W.grownBy W' (some g)

set_option maxRecDepth 100000 in
set_option maxHeartbeats 4000000 in
theorem takeListR_any (S : Addr) (g gf : Nat) (lb : Array Value) (s : Rest → List UInt8 × Rest) (st : Rest) (most : Nat) (w : World) (eg : ∀ args w, (callFunc gf args).run Tryz.prog w = .ok (.enter gf args) w) (hL : LaidS S w) (hR : RdrP S w g st) (hm : most < 18446744073709551616) (hs : LessG s) (hf : TakesF S g gf lb preV s w) :
    Calls Tryz.prog 145 #[.pointer (some ⟨g, 0, none⟩), .int .u64 most, .func (.func gf) #[] lb] w fun e w' => (∃ (A : Option Addr) (n c : Nat), e = .returned (.slice A n c) ∧ OwnX 9 1 w.heap.size w' A n c ((repG s (numOf st most).1 (numOf st most).2).1.map preC)) ∧ RdrP S w' g (repG s (numOf st most).1 (numOf st most).2).2 ∧ w.grownBy w' (some g) := by
  obtain ⟨i0, hi0, hz0, hz1, hz2⟩ := info_parts str_info
  have hlt := hR.lt
  have HF := Lib.hid hf
  have HS := Lib.hid hs
  have hC := rNumber_any S g st most w hL hR hm
  have hn := (numOf_lt st most).1
  have hroom : roomG 0 (numOf st most).2 := by
    cases hq : (numOf st most).2 with
    | none => exact Nat.zero_le _
    | some b =>
      obtain ⟨b0, e0, hb0⟩ := numOf_short st most b hq
      subst e0
      have h1 : b0.length ≤ 1000000 := hR.1
      show 0 + b.length ≤ 1000000
      omega
  generalize numOf st most = p at hC hn hroom ⊢
  obtain ⟨n, st1⟩ := p
  dsimp only at hC hn hroom ⊢
  clear hL hR hf hs
  go_enter Tryz.func145, Tryz.ntmps145
  go_wp2_with fail
  refine hC.mono ?_
  rintro e w1 ⟨rfl, hR1, hg1⟩
  go_wp2_with fail
  go_loopw [7, 8] (fun t u wr => ∃ (r : Nat) (acc : List (List UInt8)) (A : Option Addr) (k c : Nat) (sj : Rest), t = .slice A k c ∧ u = .int .u64 r ∧ r < 18446744073709551616 ∧ roomG k sj ∧ RdrP S wr g sj ∧ OwnX 9 1 w.heap.size wr A k c (acc.map preC) ∧ w.grownBy wr (some g) ∧ Hid (repG s n st1 = (acc ++ (repG s r sj).1, (repG s r sj).2))) (fun _ u _ => (intOf u).toNat)
  case atStart => exact ⟨n, [], none, 0, 0, st1, rfl, rfl, by omega, hroom, hR1, OwnX.nil _ _ _ _, hg1, rfl⟩
  case round =>
    clear hR1 hg1 hroom
    obtain ⟨r, acc, A, k, c, sj, rfl, rfl, hr, hk, hR, hO, hG, hE⟩ := hrel
    have hk1 := room_le hk
    by_cases h0 : r = 0
    · subst h0
      have hfin : Hid (repG s n st1 = (acc, sj)) := by
        show _ = _
        rw [hE.out]
        show (acc ++ [], sj) = _
        rw [List.append_nil]
      clear hE
      go_wp2_with fail
      go_ret
      rw [hfin.out]
      exact ⟨⟨A, k, c, rfl, hO⟩, hR, hG⟩
    · obtain ⟨r', rfl⟩ : ∃ r', r = r' + 1 := ⟨r - 1, by omega⟩
      have i1 : (0 : Int) < ((r' + 1 : Nat) : Int) := by omega
      have i2 : decide (0 < r' + 1) = true := decide_eq_true (by omega)
      cases sj with
      | none =>
        have hfin : Hid (repG s n st1 = (acc, none)) := by
          show _ = _
          rw [hE.out, repG_none, List.append_nil]
        have HR := Lib.hid hR
        clear hE
        go_wp2_with (go_at_call 65; refine (failed_any S g none _ HR.out).mono ?_; rintro e w2 ⟨rfl, rfl⟩)
        go_ret
        rw [hfin.out]
        exact ⟨⟨A, k, c, rfl, hO⟩, hR, hG⟩
      | some b =>
        have HR := Lib.hid hR
        have hW := HF.out wr (some b) hG hR
        have hstep : ∃ x s', s (some b) = (x, s') ∧ Hid (repG s n st1 = ((acc ++ [x]) ++ (repG s r' s').1, (repG s r' s').2)) ∧ roomG (k + 1) s' := by
          refine ⟨(s (some b)).1, (s (some b)).2, rfl, ?_, room_next HS.out hk rfl⟩
          show _ = _
          rw [hE.out, repG_more, List.append_assoc]
          rfl
        obtain ⟨x, s', hx, hE2, hk2⟩ := hstep
        rw [hx] at hW
        dsimp only at hW
        have HW := Lib.hid hW
        have j1 : ((r' + 1 : Nat) : Int) - 1 = (r' : Int) := by omega
        have j2 : IntKind.u64.wrap (r' : Int) = (r' : Int) := by simp only [IntKind.wrap_u64]; omega
        have j3 : IntKind.u64.wrap (((r' + 1 : Nat) : Int) - 1) = (r' : Int) := by rw [j1]; exact j2
        clear hE hx hW hk
        go_wp2_with first
          | (go_at_call 65; refine (failed_any S g (some b) _ HR.out).mono ?_; rintro e w2 ⟨rfl, rfl⟩)
          | (go_at_fn gf; refine HW.out.mono ?_; rintro e w3 ⟨rfl, hR2, hg2⟩; have hO2 := (hO.keepG hg2 hlt).keep (b0 w3 (.cells (preC x) 9)); have hR3 := hR2.below (b0 w3 (.cells (preC x) 9)); have hG3 := (hG.trans hg2).trans (grown_below (b0 w3 (.cells (preC x) 9)) (some g)); have hx := newX w3 (preC x) 9; have hzz := hG3.size)
          | (at_builtin; refine wpList_apX (el := 9) (base := w.heap.size) (n := k) (l := acc.map preC) (xx := preC x) (by rfl) _ _ (by rfl) Tryz.underlying52 Tryz.underlying52 hi0 hz0 hz1 hz2 (by rfl) (by omega) (by omega) (by rfl) (by rfl) hO2 (by rfl) (pre_one x) hx (by omega) hzz ?_; intro A5 c5 w5 hO5 hb5)
        have hR5 := hR3.belowX hb5 hlt
        have hG5 := grown_then' hG3 hb5
        go_roundw
        case rel => exact ⟨r', acc ++ [x], A5, k + 1, c5, s', rfl, by first | rfl | (congr 1; go_num) | go_num, by omega, hk2, hR5, by rw [List.map_append]; exact hO5, hG5, hE2⟩
        case measure => simp [intOf]

set_option maxRecDepth 100000 in
set_option maxHeartbeats 4000000 in
theorem takeListC_any (S : Addr) (g gf : Nat) (lb : Array Value) (s : Rest → Cl × Rest) (st : Rest) (most : Nat) (w : World) (eg : ∀ args w, (callFunc gf args).run Tryz.prog w = .ok (.enter gf args) w) (hL : LaidS S w) (hR : RdrP S w g st) (hm : most < 18446744073709551616) (hs : LessG s) (hf : TakesF S g gf lb clV s w) :
    Calls Tryz.prog 149 #[.pointer (some ⟨g, 0, none⟩), .int .u64 most, .func (.func gf) #[] lb] w fun e w' => (∃ (A : Option Addr) (n c : Nat), e = .returned (.slice A n c) ∧ OwnX 61 4 w.heap.size w' A n c ((repG s (numOf st most).1 (numOf st most).2).1.map Cl.cells)) ∧ RdrP S w' g (repG s (numOf st most).1 (numOf st most).2).2 ∧ w.grownBy w' (some g) := by
  obtain ⟨i0, hi0, hz0, hz1, hz2⟩ := info_parts cl_info
  have hlt := hR.lt
  have HF := Lib.hid hf
  have HS := Lib.hid hs
  have hC := rNumber_any S g st most w hL hR hm
  have hn := (numOf_lt st most).1
  have hroom : roomG 0 (numOf st most).2 := by
    cases hq : (numOf st most).2 with
    | none => exact Nat.zero_le _
    | some b =>
      obtain ⟨b0, e0, hb0⟩ := numOf_short st most b hq
      subst e0
      have h1 : b0.length ≤ 1000000 := hR.1
      show 0 + b.length ≤ 1000000
      omega
  generalize numOf st most = p at hC hn hroom ⊢
  obtain ⟨n, st1⟩ := p
  dsimp only at hC hn hroom ⊢
  clear hL hR hf hs
  go_enter Tryz.func149, Tryz.ntmps149
  go_wp2_with fail
  refine hC.mono ?_
  rintro e w1 ⟨rfl, hR1, hg1⟩
  go_wp2_with fail
  go_loopw [7, 8] (fun t u wr => ∃ (r : Nat) (acc : List (Cl)) (A : Option Addr) (k c : Nat) (sj : Rest), t = .slice A k c ∧ u = .int .u64 r ∧ r < 18446744073709551616 ∧ roomG k sj ∧ RdrP S wr g sj ∧ OwnX 61 4 w.heap.size wr A k c (acc.map Cl.cells) ∧ w.grownBy wr (some g) ∧ Hid (repG s n st1 = (acc ++ (repG s r sj).1, (repG s r sj).2))) (fun _ u _ => (intOf u).toNat)
  case atStart => exact ⟨n, [], none, 0, 0, st1, rfl, rfl, by omega, hroom, hR1, OwnX.nil _ _ _ _, hg1, rfl⟩
  case round =>
    clear hR1 hg1 hroom
    obtain ⟨r, acc, A, k, c, sj, rfl, rfl, hr, hk, hR, hO, hG, hE⟩ := hrel
    have hk1 := room_le hk
    by_cases h0 : r = 0
    · subst h0
      have hfin : Hid (repG s n st1 = (acc, sj)) := by
        show _ = _
        rw [hE.out]
        show (acc ++ [], sj) = _
        rw [List.append_nil]
      clear hE
      go_wp2_with fail
      go_ret
      rw [hfin.out]
      exact ⟨⟨A, k, c, rfl, hO⟩, hR, hG⟩
    · obtain ⟨r', rfl⟩ : ∃ r', r = r' + 1 := ⟨r - 1, by omega⟩
      have i1 : (0 : Int) < ((r' + 1 : Nat) : Int) := by omega
      have i2 : decide (0 < r' + 1) = true := decide_eq_true (by omega)
      cases sj with
      | none =>
        have hfin : Hid (repG s n st1 = (acc, none)) := by
          show _ = _
          rw [hE.out, repG_none, List.append_nil]
        have HR := Lib.hid hR
        clear hE
        go_wp2_with (go_at_call 65; refine (failed_any S g none _ HR.out).mono ?_; rintro e w2 ⟨rfl, rfl⟩)
        go_ret
        rw [hfin.out]
        exact ⟨⟨A, k, c, rfl, hO⟩, hR, hG⟩
      | some b =>
        have HR := Lib.hid hR
        have hW := HF.out wr (some b) hG hR
        have hstep : ∃ x s', s (some b) = (x, s') ∧ Hid (repG s n st1 = ((acc ++ [x]) ++ (repG s r' s').1, (repG s r' s').2)) ∧ roomG (k + 1) s' := by
          refine ⟨(s (some b)).1, (s (some b)).2, rfl, ?_, room_next HS.out hk rfl⟩
          show _ = _
          rw [hE.out, repG_more, List.append_assoc]
          rfl
        obtain ⟨x, s', hx, hE2, hk2⟩ := hstep
        rw [hx] at hW
        dsimp only at hW
        have HW := Lib.hid hW
        have j1 : ((r' + 1 : Nat) : Int) - 1 = (r' : Int) := by omega
        have j2 : IntKind.u64.wrap (r' : Int) = (r' : Int) := by simp only [IntKind.wrap_u64]; omega
        have j3 : IntKind.u64.wrap (((r' + 1 : Nat) : Int) - 1) = (r' : Int) := by rw [j1]; exact j2
        clear hE hx hW hk
        go_wp2_with first
          | (go_at_call 65; refine (failed_any S g (some b) _ HR.out).mono ?_; rintro e w2 ⟨rfl, rfl⟩)
          | (go_at_fn gf; refine HW.out.mono ?_; rintro e w3 ⟨rfl, hR2, hg2⟩; have hO2 := (hO.keepG hg2 hlt).keep (b0 w3 (.cells (Cl.cells x) 61)); have hR3 := hR2.below (b0 w3 (.cells (Cl.cells x) 61)); have hG3 := (hG.trans hg2).trans (grown_below (b0 w3 (.cells (Cl.cells x) 61)) (some g)); have hx := newX w3 (Cl.cells x) 61; have hzz := hG3.size)
          | (at_builtin; refine wpList_apX (el := 61) (base := w.heap.size) (n := k) (l := acc.map Cl.cells) (xx := Cl.cells x) (by rfl) _ _ (by rfl) Tryz.underlying54 Tryz.underlying54 hi0 hz0 hz1 hz2 (by rfl) (by omega) (by omega) (by rfl) (by rfl) hO2 (by rfl) (cl_one x) hx (by omega) hzz ?_; intro A5 c5 w5 hO5 hb5)
        have hR5 := hR3.belowX hb5 hlt
        have hG5 := grown_then' hG3 hb5
        go_roundw
        case rel => exact ⟨r', acc ++ [x], A5, k + 1, c5, s', rfl, by first | rfl | (congr 1; go_num) | go_num, by omega, hk2, hR5, by rw [List.map_append]; exact hO5, hG5, hE2⟩
        case measure => simp [intOf]

set_option maxRecDepth 100000 in
set_option maxHeartbeats 4000000 in
theorem takeListL_any (S : Addr) (g gf : Nat) (lb : Array Value) (s : Rest → Ln × Rest) (st : Rest) (most : Nat) (w : World) (eg : ∀ args w, (callFunc gf args).run Tryz.prog w = .ok (.enter gf args) w) (hL : LaidS S w) (hR : RdrP S w g st) (hm : most < 18446744073709551616) (hs : LessG s) (hf : TakesF S g gf lb lnV s w) :
    Calls Tryz.prog 30 #[.pointer (some ⟨g, 0, none⟩), .int .u64 most, .func (.func gf) #[] lb] w fun e w' => (∃ (A : Option Addr) (n c : Nat), e = .returned (.slice A n c) ∧ OwnX 49 11 w.heap.size w' A n c ((repG s (numOf st most).1 (numOf st most).2).1.map Ln.cells)) ∧ RdrP S w' g (repG s (numOf st most).1 (numOf st most).2).2 ∧ w.grownBy w' (some g) := by
  obtain ⟨i0, hi0, hz0, hz1, hz2⟩ := info_parts ln_info
  have hlt := hR.lt
  have HF := Lib.hid hf
  have HS := Lib.hid hs
  have hC := rNumber_any S g st most w hL hR hm
  have hn := (numOf_lt st most).1
  have hroom : roomG 0 (numOf st most).2 := by
    cases hq : (numOf st most).2 with
    | none => exact Nat.zero_le _
    | some b =>
      obtain ⟨b0, e0, hb0⟩ := numOf_short st most b hq
      subst e0
      have h1 : b0.length ≤ 1000000 := hR.1
      show 0 + b.length ≤ 1000000
      omega
  generalize numOf st most = p at hC hn hroom ⊢
  obtain ⟨n, st1⟩ := p
  dsimp only at hC hn hroom ⊢
  clear hL hR hf hs
  go_enter Tryz.func30, Tryz.ntmps30
  go_wp2_with fail
  refine hC.mono ?_
  rintro e w1 ⟨rfl, hR1, hg1⟩
  go_wp2_with fail
  go_loopw [7, 8] (fun t u wr => ∃ (r : Nat) (acc : List (Ln)) (A : Option Addr) (k c : Nat) (sj : Rest), t = .slice A k c ∧ u = .int .u64 r ∧ r < 18446744073709551616 ∧ roomG k sj ∧ RdrP S wr g sj ∧ OwnX 49 11 w.heap.size wr A k c (acc.map Ln.cells) ∧ w.grownBy wr (some g) ∧ Hid (repG s n st1 = (acc ++ (repG s r sj).1, (repG s r sj).2))) (fun _ u _ => (intOf u).toNat)
  case atStart => exact ⟨n, [], none, 0, 0, st1, rfl, rfl, by omega, hroom, hR1, OwnX.nil _ _ _ _, hg1, rfl⟩
  case round =>
    clear hR1 hg1 hroom
    obtain ⟨r, acc, A, k, c, sj, rfl, rfl, hr, hk, hR, hO, hG, hE⟩ := hrel
    have hk1 := room_le hk
    by_cases h0 : r = 0
    · subst h0
      have hfin : Hid (repG s n st1 = (acc, sj)) := by
        show _ = _
        rw [hE.out]
        show (acc ++ [], sj) = _
        rw [List.append_nil]
      clear hE
      go_wp2_with fail
      go_ret
      rw [hfin.out]
      exact ⟨⟨A, k, c, rfl, hO⟩, hR, hG⟩
    · obtain ⟨r', rfl⟩ : ∃ r', r = r' + 1 := ⟨r - 1, by omega⟩
      have i1 : (0 : Int) < ((r' + 1 : Nat) : Int) := by omega
      have i2 : decide (0 < r' + 1) = true := decide_eq_true (by omega)
      cases sj with
      | none =>
        have hfin : Hid (repG s n st1 = (acc, none)) := by
          show _ = _
          rw [hE.out, repG_none, List.append_nil]
        have HR := Lib.hid hR
        clear hE
        go_wp2_with (go_at_call 65; refine (failed_any S g none _ HR.out).mono ?_; rintro e w2 ⟨rfl, rfl⟩)
        go_ret
        rw [hfin.out]
        exact ⟨⟨A, k, c, rfl, hO⟩, hR, hG⟩
      | some b =>
        have HR := Lib.hid hR
        have hW := HF.out wr (some b) hG hR
        have hstep : ∃ x s', s (some b) = (x, s') ∧ Hid (repG s n st1 = ((acc ++ [x]) ++ (repG s r' s').1, (repG s r' s').2)) ∧ roomG (k + 1) s' := by
          refine ⟨(s (some b)).1, (s (some b)).2, rfl, ?_, room_next HS.out hk rfl⟩
          show _ = _
          rw [hE.out, repG_more, List.append_assoc]
          rfl
        obtain ⟨x, s', hx, hE2, hk2⟩ := hstep
        rw [hx] at hW
        dsimp only at hW
        have HW := Lib.hid hW
        have j1 : ((r' + 1 : Nat) : Int) - 1 = (r' : Int) := by omega
        have j2 : IntKind.u64.wrap (r' : Int) = (r' : Int) := by simp only [IntKind.wrap_u64]; omega
        have j3 : IntKind.u64.wrap (((r' + 1 : Nat) : Int) - 1) = (r' : Int) := by rw [j1]; exact j2
        clear hE hx hW hk
        go_wp2_with first
          | (go_at_call 65; refine (failed_any S g (some b) _ HR.out).mono ?_; rintro e w2 ⟨rfl, rfl⟩)
          | (go_at_fn gf; refine HW.out.mono ?_; rintro e w3 ⟨rfl, hR2, hg2⟩; have hO2 := (hO.keepG hg2 hlt).keep (b0 w3 (.cells (Ln.cells x) 49)); have hR3 := hR2.below (b0 w3 (.cells (Ln.cells x) 49)); have hG3 := (hG.trans hg2).trans (grown_below (b0 w3 (.cells (Ln.cells x) 49)) (some g)); have hx := newX w3 (Ln.cells x) 49; have hzz := hG3.size)
          | (at_builtin; refine wpList_apX (el := 49) (base := w.heap.size) (n := k) (l := acc.map Ln.cells) (xx := Ln.cells x) (by rfl) _ _ (by rfl) Tryz.underlying22 Tryz.underlying22 hi0 hz0 hz1 hz2 (by rfl) (by omega) (by omega) (by rfl) (by rfl) hO2 (by rfl) (ln_one x) hx (by omega) hzz ?_; intro A5 c5 w5 hO5 hb5)
        have hR5 := hR3.belowX hb5 hlt
        have hG5 := grown_then' hG3 hb5
        go_roundw
        case rel => exact ⟨r', acc ++ [x], A5, k + 1, c5, s', rfl, by first | rfl | (congr 1; go_num) | go_num, by omega, hk2, hR5, by rw [List.map_append]; exact hO5, hG5, hE2⟩
        case measure => simp [intOf]

set_option maxRecDepth 100000 in
set_option maxHeartbeats 1000000 in
theorem soundR_any (S : Addr) (g gf : Nat) (st : Rest) (A : Option Addr) (k c : Nat) (b : Bool) (w : World) (eg : ∀ args w, (callFunc gf args).run Tryz.prog w = .ok (.enter gf args) w) (hR : RdrP S w g st) (hg : st ≠ none → Calls Tryz.prog gf #[.slice A k c] w fun e w' => e = .returned (.bool b) ∧ Below w.heap.size w w') :
    Calls Tryz.prog 147 #[.pointer (some ⟨g, 0, none⟩), .slice A k c, .func (.func gf) #[] #[]] w fun e w' => e = .returned (if st ≠ none ∧ b = true then .tuple #[.slice A k c, .int .i64 0] else .tuple #[.slice none 0 0, .int .i64 2]) ∧ Below w.heap.size w w' := by
  cases st with
  | none =>
    rw [if_neg (fun h => h.1 rfl)]
    go_enter Tryz.func147, Tryz.ntmps147
    go_wp2_with (go_at_call 65; refine (failed_any S g none _ hR).mono ?_; rintro e w2 ⟨rfl, rfl⟩)
    go_ret2
    exact ⟨rfl, Below.refl _ _⟩
  | some bb =>
    have HG := Lib.hid (hg (by simp))
    have HR := Lib.hid hR
    clear hg hR
    cases b with
    | false =>
      rw [if_neg (fun h => by cases h.2)]
      go_enter Tryz.func147, Tryz.ntmps147
      go_wp2_with first
        | (go_at_call 65; refine (failed_any S g (some bb) _ HR.out).mono ?_; rintro e w2 ⟨rfl, rfl⟩)
        | (go_at_fn gf; refine HG.out.mono ?_; rintro e w3 ⟨rfl, hb3⟩)
      go_ret2
      exact ⟨rfl, hb3⟩
    | true =>
      rw [if_pos ⟨by simp, rfl⟩]
      go_enter Tryz.func147, Tryz.ntmps147
      go_wp2_with first
        | (go_at_call 65; refine (failed_any S g (some bb) _ HR.out).mono ?_; rintro e w2 ⟨rfl, rfl⟩)
        | (go_at_fn gf; refine HG.out.mono ?_; rintro e w3 ⟨rfl, hb3⟩)
      go_ret2
      exact ⟨rfl, hb3⟩

set_option maxRecDepth 100000 in
set_option maxHeartbeats 1000000 in
theorem soundC_any (S : Addr) (g gf : Nat) (st : Rest) (A : Option Addr) (k c : Nat) (b : Bool) (w : World) (eg : ∀ args w, (callFunc gf args).run Tryz.prog w = .ok (.enter gf args) w) (hR : RdrP S w g st) (hg : st ≠ none → Calls Tryz.prog gf #[.slice A k c] w fun e w' => e = .returned (.bool b) ∧ Below w.heap.size w w') :
    Calls Tryz.prog 151 #[.pointer (some ⟨g, 0, none⟩), .slice A k c, .func (.func gf) #[] #[]] w fun e w' => e = .returned (if st ≠ none ∧ b = true then .tuple #[.slice A k c, .int .i64 0] else .tuple #[.slice none 0 0, .int .i64 2]) ∧ Below w.heap.size w w' := by
  cases st with
  | none =>
    rw [if_neg (fun h => h.1 rfl)]
    go_enter Tryz.func151, Tryz.ntmps151
    go_wp2_with (go_at_call 65; refine (failed_any S g none _ hR).mono ?_; rintro e w2 ⟨rfl, rfl⟩)
    go_ret2
    exact ⟨rfl, Below.refl _ _⟩
  | some bb =>
    have HG := Lib.hid (hg (by simp))
    have HR := Lib.hid hR
    clear hg hR
    cases b with
    | false =>
      rw [if_neg (fun h => by cases h.2)]
      go_enter Tryz.func151, Tryz.ntmps151
      go_wp2_with first
        | (go_at_call 65; refine (failed_any S g (some bb) _ HR.out).mono ?_; rintro e w2 ⟨rfl, rfl⟩)
        | (go_at_fn gf; refine HG.out.mono ?_; rintro e w3 ⟨rfl, hb3⟩)
      go_ret2
      exact ⟨rfl, hb3⟩
    | true =>
      rw [if_pos ⟨by simp, rfl⟩]
      go_enter Tryz.func151, Tryz.ntmps151
      go_wp2_with first
        | (go_at_call 65; refine (failed_any S g (some bb) _ HR.out).mono ?_; rintro e w2 ⟨rfl, rfl⟩)
        | (go_at_fn gf; refine HG.out.mono ?_; rintro e w3 ⟨rfl, hb3⟩)
      go_ret2
      exact ⟨rfl, hb3⟩

set_option maxRecDepth 100000 in
set_option maxHeartbeats 1000000 in
theorem soundL_any (S : Addr) (g gf : Nat) (st : Rest) (A : Option Addr) (k c : Nat) (b : Bool) (w : World) (eg : ∀ args w, (callFunc gf args).run Tryz.prog w = .ok (.enter gf args) w) (hR : RdrP S w g st) (hg : st ≠ none → Calls Tryz.prog gf #[.slice A k c] w fun e w' => e = .returned (.bool b) ∧ Below w.heap.size w w') :
    Calls Tryz.prog 34 #[.pointer (some ⟨g, 0, none⟩), .slice A k c, .func (.func gf) #[] #[]] w fun e w' => e = .returned (if st ≠ none ∧ b = true then .tuple #[.slice A k c, .int .i64 0] else .tuple #[.slice none 0 0, .int .i64 2]) ∧ Below w.heap.size w w' := by
  cases st with
  | none =>
    rw [if_neg (fun h => h.1 rfl)]
    go_enter Tryz.func34, Tryz.ntmps34
    go_wp2_with (go_at_call 65; refine (failed_any S g none _ hR).mono ?_; rintro e w2 ⟨rfl, rfl⟩)
    go_ret2
    exact ⟨rfl, Below.refl _ _⟩
  | some bb =>
    have HG := Lib.hid (hg (by simp))
    have HR := Lib.hid hR
    clear hg hR
    cases b with
    | false =>
      rw [if_neg (fun h => by cases h.2)]
      go_enter Tryz.func34, Tryz.ntmps34
      go_wp2_with first
        | (go_at_call 65; refine (failed_any S g (some bb) _ HR.out).mono ?_; rintro e w2 ⟨rfl, rfl⟩)
        | (go_at_fn gf; refine HG.out.mono ?_; rintro e w3 ⟨rfl, hb3⟩)
      go_ret2
      exact ⟨rfl, hb3⟩
    | true =>
      rw [if_pos ⟨by simp, rfl⟩]
      go_enter Tryz.func34, Tryz.ntmps34
      go_wp2_with first
        | (go_at_call 65; refine (failed_any S g (some bb) _ HR.out).mono ?_; rintro e w2 ⟨rfl, rfl⟩)
        | (go_at_fn gf; refine HG.out.mono ?_; rintro e w3 ⟨rfl, hb3⟩)
      go_ret2
      exact ⟨rfl, hb3⟩
end Go.Proofs.YtpjleeeligahaaaGreatDoor
