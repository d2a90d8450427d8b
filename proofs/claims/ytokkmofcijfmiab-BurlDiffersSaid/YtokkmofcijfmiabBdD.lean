/-
  WHAT IS PROVED: the document's Differ (spinneyref28): the keys at which good cells are unlike, each once, rising. Conditions: those typed in each theorem.
-/
import Derived.Test.YtokkmofcijfmiabGQ15
import Derived.Test.YtokkmofcijfmiabBuI
import Derived.Test.YtokkmofcijfmiabCv
import Derived.BigRegion
namespace Go.Proofs.Ytokkmofcijfmiab
open Go.RowKit

theorem en_spinney_spinneyref28_Differ : ∀ args w, (callFunc 11 args).run Try.prog w = .ok (.enter 11 args) w := enters_of Try.func11 (by kernel_rfl) rfl

theorem val_eqY (i j : Nat) (a : Vl) (W : World) : ((do eqGuard .eql 31 (.tmp i) (.tmp j) (.agg #[.int .i64 a.1, .int .i64 a.2.1, .string a.2.2]) (.agg #[.int .i64 a.1, .int .i64 a.2.1, .string a.2.2]); binOp .eql 31 (.agg #[.int .i64 a.1, .int .i64 a.2.1, .string a.2.2]) (.agg #[.int .i64 a.1, .int .i64 a.2.1, .string a.2.2])) : Sem Value).run Try.prog W = .ok (.bool true) W := by
  obtain ⟨k, x, s⟩ := a
  go_simp
theorem val_eqN (i j : Nat) (a b : Vl) (h : a ≠ b) (W : World) : ((do eqGuard .eql 31 (.tmp i) (.tmp j) (.agg #[.int .i64 a.1, .int .i64 a.2.1, .string a.2.2]) (.agg #[.int .i64 b.1, .int .i64 b.2.1, .string b.2.2]); binOp .eql 31 (.agg #[.int .i64 a.1, .int .i64 a.2.1, .string a.2.2]) (.agg #[.int .i64 b.1, .int .i64 b.2.1, .string b.2.2])) : Sem Value).run Try.prog W = .ok (.bool false) W := by
  obtain ⟨k, x, s⟩ := a
  obtain ⟨k2, x2, s2⟩ := b
  by_cases h2 : k = k2
  · subst h2
    by_cases h3 : x = x2
    · subst h3
      have h4 : s.toList ≠ s2.toList := by
        rw [ByteArray.toList_eq, ByteArray.toList_eq]
        intro e
        exact h (by rw [byt_ext e])
      go_simp
    · have h3' : (x == x2) = false := by simpa using h3
      go_simp
  · have h2' : (k == k2) = false := by simpa using h2
    go_simp
theorem run_cutG (W : World) (A : Option Addr) (n c k : Nat) (h : k ≤ n) : (Instr.sliceAt 24 (.slice A n c) (some (.int .i64 (k : Int))) none none).run Try.prog W = .ok (.slice (if c = k then A else A.map (·.add k)) (n - k) (c - k)) W := by
  have h1 : (k : Int) ≤ (n : Int) := by omega
  go_simp
theorem bsC0 (w : World) : (Instr.buildSlice 22 0 #[]).run Try.prog w = .ok (.slice (some ⟨w.heap.size, 0, none⟩) 0 0) (w.alloc (.cells #[] 54)) := by kernel_rfl
theorem x_bsC0 {w : World} {ρ : Operand → Value} {d : Option Tmp} {ty : TypeId} {p : String} {af : Array Edge} {gd : Option (Nat × Bool)} : (execOp ρ ⟨d, .buildSlice 22 0 #[], ty, p, af, gd⟩).run Try.prog w = .ok (.value (.slice (some ⟨w.heap.size, 0, none⟩) 0 0)) (w.alloc (.cells #[] 54)) := by
  unfold execOp
  dsimp only
  have e : (#[] : Array (Nat × Operand)).map (fun x => (x.fst, ρ x.snd)) = #[] := by simp
  have h := bsC0 w
  rw [← e] at h
  rw [Sem.run_bind]
  refine (congrArg (fun r => Result.andThen r _) h).trans ?_
  rfl
theorem bsS0 (w : World) : (Instr.buildSlice 24 0 #[]).run Try.prog w = .ok (.slice (some ⟨w.heap.size, 0, none⟩) 0 0) (w.alloc (.cells #[] 9)) := by kernel_rfl
theorem x_bsS0 {w : World} {ρ : Operand → Value} {d : Option Tmp} {ty : TypeId} {p : String} {af : Array Edge} {gd : Option (Nat × Bool)} : (execOp ρ ⟨d, .buildSlice 24 0 #[], ty, p, af, gd⟩).run Try.prog w = .ok (.value (.slice (some ⟨w.heap.size, 0, none⟩) 0 0)) (w.alloc (.cells #[] 9)) := by
  unfold execOp
  dsimp only
  have e : (#[] : Array (Nat × Operand)).map (fun x => (x.fst, ρ x.snd)) = #[] := by simp
  have h := bsS0 w
  rw [← e] at h
  rw [Sem.run_bind]
  refine (congrArg (fun r => Result.andThen r _) h).trans ?_
  rfl
theorem x_bsS1 {w : World} {ρ : Operand → Value} {d : Option Tmp} {i : Nat} {x : ByteArray} {ty : TypeId} {p : String} {af : Array Edge} {gd : Option (Nat × Bool)} (h : ρ (.tmp i) = .string x) : (execOp ρ ⟨d, .buildSlice 24 1 #[(0, .tmp i)], ty, p, af, gd⟩).run Try.prog w = .ok (.value (.slice (some ⟨w.heap.size, 0, none⟩) 1 1)) (w.alloc (.cells #[.string x] 9)) := by
  unfold execOp
  simp only [List.map_toArray, List.map_cons, List.map_nil, h, Sem.run_bind, bsSt, Sem.run_pure, Result.andThen_ok]
theorem run_apNil (w : World) (a : Addr) (n c d : Nat) (ty : TypeId) (h : n ≤ c) : (Builtin.append_ #[22, 22] ty #[.slice (some a) n c, .slice none 0 d]).run Try.prog w = .ok (.slice (some a) n c) w := by
  obtain ⟨i0, hi0, hz1, hs0, hb0⟩ := info_parts clEl_info
  have ht : Try.prog.underlying 22 = some (.slice 54) := by kernel_rfl
  simp [Builtin.append_, run_underlying ht, sizeOf, typeInfo, hi0, Builtin.lenOf, Builtin.firstCells, h, storeCells]
section
variable {l : List Oper} {Q : Exit → Act → World → Prop} {rest : List Oper} {a0 : Act} {L : List (Nat × Bool × Value)} {w : World}
theorem g_apCl {i j d nn base B n c m dd : Nat} {a : Addr} {A2 : Option Addr} {ks xs : List Cl} {ty : TypeId} {p : String} {af : Array Edge} (hn : a0.tmps.size = nn) (hown : OwnX tCl 4 base w (some a) n c (ks.map Cl.cells)) (hr : RdX 4 B w A2 (xs.map Cl.cells)) (hm : xs.length = m) (hsz : n + m ≤ 1000000000) (hbase : base ≤ w.heap.size)
    (h : ∀ a' c' w2, OwnX tCl 4 base w2 (some a') (n + m) c' ((ks ++ xs).map Cl.cells) → Below base w w2 → FL Try.prog l Q rest a0 ((d, true, .slice (some a') (n + m) c') :: L) w2)
    (h1 : lk L i = some (true, .slice (some a) n c) := by rfl) (h2 : lk L j = some (true, .slice A2 m dd) := by rfl) (hd : Nat.blt d nn = true := by rfl) : FL Try.prog l Q (⟨some d, .call { callee := .builtin .append, args := #[.tmp i, .tmp j], argTypes := #[22, 22] }, ty, p, af, none⟩ :: rest) a0 L w := by
  cases A2 with
  | none =>
    have h0 : xs = [] := by
      cases xs with
      | nil => rfl
      | cons x r =>
        obtain ⟨ad, he, _⟩ := hr 0 x.cells rfl
        cases he
    subst h0
    have hm0 : m = 0 := hm.symm
    subst hm0
    exact g_w hn (fun hk => x_ap (lk_at hk h1 (fun _ => rfl) rfl) (lk_at hk h2 (fun _ => rfl) rfl) (run_apNil w a n c dd ty hown.cap.1)) (h a c w (by rw [List.append_nil]; exact hown) (Below.refl _ _)) rfl hd rfl
  | some ad =>
    refine g_apX (base := base) (xs := xs.map Cl.cells) hn Try.underlying22 clEl_info rfl (by decide) (by decide) hown (clEl_szd xs) (by rw [List.length_map]; exact hm) (fun y hy u hu => ?_) (fun k cs hk j v hv => ?_) hsz hbase (.inl (by simp)) ?_ h1 h2 hd
    · obtain ⟨x, _, rfl⟩ := List.mem_map.1 hy
      have h3 := cl_oneC x
      rw [Array.all_eq_true'] at h3
      exact h3 u (by simpa using hu)
    · obtain ⟨ad2, e, _, h3⟩ := hr k cs hk
      injection e with e
      subst e
      exact h3 j v hv
    · rintro v w2 ⟨A', c', rfl, hO, hB, hne, _⟩
      cases A' with
      | none => exact absurd rfl hne
      | some a' => exact h a' c' w2 (by rw [List.map_append]; exact hO) hB
end
theorem Below.szE {b : Nat} {w w' : World} (h : Below b w w') : w.heap.size ≤ w'.heap.size := h.size
/-- What the document's Differ answers of good cells. -/
def RefDifP (a b : List Cl) (w : World) (e : Ending) (w' : World) : Prop := (∃ (A3 : Option Addr) (n3 c3 : Nat) (R : List ByteArray), e = .returned (.slice A3 n3 c3) ∧ R.length = n3 ∧ RdS w'.heap.size w' A3 R ∧ RiseS R ∧ ∀ k, k ∈ R ↔ DiffK a b k) ∧ Below w.heap.size w w'
/-- What of the cells so far is told. -/
def DifI (a b : List Cl) (ps : List Int) (l : List Cl) (out : List ByteArray) : Prop := RiseS out ∧ ∀ x, x ∈ out ↔ ∃ c, c ∈ l ∧ c.ky = x ∧ ((leafL x.data.toList : Nat) : Int) ∈ ps ∧ atV x a ≠ atV x b
theorem difI_no {a b : List Cl} {ps : List Int} {l : List Cl} {out : List ByteArray} {c : Cl} (h : DifI a b ps l out) (hn : ¬ (((leafL c.ky.data.toList : Nat) : Int) ∈ ps ∧ atV c.ky a ≠ atV c.ky b)) : DifI a b ps (l ++ [c]) out := by
  refine ⟨h.1, fun x => ?_⟩
  rw [h.2]
  constructor
  · rintro ⟨y, h1, h2⟩
    exact ⟨y, List.mem_append_left _ h1, h2⟩
  · rintro ⟨y, h1, h2, h3⟩
    rcases List.mem_append.1 h1 with h1 | h1
    · exact ⟨y, h1, h2, h3⟩
    · rw [List.mem_singleton] at h1
      subst h1
      subst h2
      exact absurd h3 hn
theorem difI_yes {a b : List Cl} {ps : List Int} {l : List Cl} {out out2 : List ByteArray} {c : Cl} (h : DifI a b ps l out) (hn : ((leafL c.ky.data.toList : Nat) : Int) ∈ ps ∧ atV c.ky a ≠ atV c.ky b) (h2 : RiseS out2) (h3 : ∀ x, x ∈ out2 ↔ x ∈ out ∨ x = c.ky) : DifI a b ps (l ++ [c]) out2 := by
  refine ⟨h2, fun x => ?_⟩
  rw [h3, h.2]
  constructor
  · rintro (⟨y, k1, k2⟩ | rfl)
    · exact ⟨y, List.mem_append_left _ k1, k2⟩
    · exact ⟨c, List.mem_append_right _ (List.mem_singleton_self _), rfl, hn⟩
  · rintro ⟨y, k1, k2, k3⟩
    rcases List.mem_append.1 k1 with k1 | k1
    · exact .inl ⟨y, k1, k2, k3⟩
    · rw [List.mem_singleton] at k1
      subst k1
      exact .inr k2.symm
set_option maxRecDepth 100000 in
set_option maxHeartbeats 20000000 in
theorem refDiffer_good (A : Option Addr) (n c : Nat) (A2 : Option Addr) (m d : Nat) (a b : List Cl) (w : World) (hn : a.length = n) (hr : RdX 4 w.heap.size w A (a.map Cl.cells)) (hm : n ≤ 1000) (hf : ∀ x, x ∈ a → x.fits) (hn2 : b.length = m) (hr2 : RdX 4 w.heap.size w A2 (b.map Cl.cells)) (hm2 : m ≤ 1000) (hf2 : ∀ x, x ∈ b → x.fits) (hg : goodCls a = true) (hg2 : goodCls b = true) : Calls Try.prog 11 #[.slice A n c, .slice A2 m d] w (RefDifP a b w) := by
  have HN := Lib.hid hn
  have HN2 := Lib.hid hn2
  have HR := Lib.hid (fun W (h : Below w.heap.size w W) => (hr.keep (W' := W) h (Nat.le_refl _)).more h.size)
  have HR2 := Lib.hid (fun W (h : Below w.heap.size w W) => (hr2.keep (W' := W) h (Nat.le_refl _)).more h.size)
  have cO := refBu_any A n c a w HN.out hr (by omega) hf (fun x hx => goodLs_mem hg hx)
  clear hr hr2 hn hn2
  go_enter Try.func11, Try.ntmps11
  go_upto_region 1 with fail
  refine wp_region_lit ?_
  refine fl_start ?_
  generalize ha : Act.mk _ _ = a0
  have hn : a0.tmps.size = 101 := by rw [← ha]; kernel_rfl
  have h0 : (fr a0 []).eval (.tmp 0) = .slice A n c := by rw [← ha]; kernel_rfl
  refine fl_know hn rfl h0 ?_
  clear h0
  have h1 : (fr a0 [(0, true, .slice A n c)]).eval (.tmp 1) = .slice A2 m d := by rw [← ha]; kernel_rfl
  refine fl_know hn rfl h1 ?_
  clear h1
  refine g_mv hn ?_
  refine g_c1x en_spinney_spinneyref28_Of hn (R := fun v w3 => v = .agg (burlC a) ∧ Below w.heap.size w w3) (cO.mono fun _ _ ⟨he, hb3⟩ => ⟨_, he, rfl, hb3⟩) ?_
  rintro v w1 ⟨rfl, hB1⟩
  refine g_mv hn ?_
  refine g_c1x en_spinney_spinneyref28_Of hn (R := fun v w4 => v = .agg (burlC b) ∧ Below w1.heap.size w1 w4) ((refBu_any A2 m d b w1 HN2.out (HR2.out w1 hB1) (by omega) hf2 (fun x hx => goodLs_mem hg2 hx)).mono fun _ _ ⟨he, hb4⟩ => ⟨_, he, rfl, hb4⟩) ?_
  rintro v w2 ⟨rfl, hb2⟩
  have hB2 : Below w.heap.size w w2 := hB1.trans (hb2.mono hB1.size)
  refine g_c2x en_spinney_spinneyref28_Part hn (R := fun v w5 => ∃ Ap np cp, v = .slice Ap np cp ∧ OwnX tIn 1 w2.heap.size w5 Ap np cp ((partsOf a b).map inC) ∧ Below w2.heap.size w2 w5) ((buRefPart_any _ _ _ _ w2 (lvTo_len a) (lvTo_len b)).mono fun _ _ ⟨A, n, c, he, hO, hb⟩ => ⟨_, he, A, n, c, rfl, hO, hb⟩) ?_
  rintro v w5 ⟨Ap, np, cp, rfl, hO5, hb5⟩
  refine g_as hn ?_
  refine fl_end ?_
  clear hn cO
  subst ha
  dsimp only [fr, cnd, Act.put, cond_true]
  simp only [List.setIfInBounds_toArray, List.set_cons_zero, List.set_cons_succ]
  have hP0 := hO5.rdi
  have hB5 : Below w.heap.size w w5 := hB2.trans (hb5.mono hB2.size)
  have hps : (partsOf a b).length = np := by
    have h := hO5.len
    rw [List.length_map] at h
    exact h
  have hp16 : np ≤ 16 := by
    rw [← hps]
    exact parts_len _ _ _ _
  have hfin : ∀ out, DifI a b (partsOf a b) (a ++ b) out → RiseS out ∧ ∀ k, k ∈ out ↔ DiffK a b k := fun out h => ⟨h.1, fun k => by
    rw [h.2]
    constructor
    · rintro ⟨c, h1, h2, h3, h4⟩
      exact ⟨⟨c, h1, h2⟩, h3, h4⟩
    · rintro ⟨⟨c, h1, h2⟩, h3, h4⟩
      exact ⟨c, h1, h2, h3, h4⟩⟩
  have HFIN := Lib.hid hfin
  generalize partsOf a b = ps at hP0 hps HFIN
  clear hO5 hb2 hb5 hB1 hB2 hfin
  go_upto_region 3 with fail
  refine wp_region_lit ?_
  refine fl_start ?_
  generalize ha : Act.mk _ _ = a0
  have hn : a0.tmps.size = 101 := by rw [← ha]; kernel_rfl
  have h0 : (fr a0 []).eval (.tmp 0) = .slice A n c := by rw [← ha]; kernel_rfl
  refine fl_know hn rfl h0 ?_
  clear h0
  have h1 : (fr a0 [(0, true, .slice A n c)]).eval (.tmp 1) = .slice A2 m d := by rw [← ha]; kernel_rfl
  refine fl_know hn rfl h1 ?_
  clear h1
  refine g_w hn (fun hk => x_bsC0) ?_
  have ba := b0 w5 (.cells #[] 54)
  have hE : OwnX tCl 4 w5.heap.size (w5.alloc (.cells #[] 54)) (some ⟨w5.heap.size, 0, none⟩) 0 0 (([] : List Cl).map Cl.cells) := ⟨⟨rfl, .inr ⟨w5.heap.size, 0, #[], rfl, Nat.le_refl _, blk_new w5 _ _, Nat.le_refl _, Nat.zero_le _, rfl, rfl⟩⟩, fun _ h => by simp at h, rfl⟩
  have hBa : Below w.heap.size w (w5.alloc (.cells #[] 54)) := hB5.trans (ba.mono hB5.size)
  generalize hge : w5.heap.size = ge at hE ba ⊢
  generalize w5.alloc (.cells #[] 54) = w6 at hE hBa ba ⊢
  have hge2 : ge ≤ w6.heap.size := by rw [← hge]; exact ba.size
  refine g_mv hn ?_
  refine g_apCl (base := ge) hn hE (HR.out w6 hBa) HN.out (by omega) hge2 ?_
  intro a1 c1 w7 hO7 hb7
  rw [Nat.zero_add] at hO7 ⊢
  have hBb : Below w.heap.size w w7 := hBa.trans (hb7.mono (by have := hB5.size; omega))
  refine g_mv hn ?_
  refine g_apCl (base := ge) hn hO7 (HR2.out w7 hBb) HN2.out (by omega) (by have := hb7.size; omega) ?_
  intro a7 c7 w3 hO8 hb8
  refine g_as hn ?_
  refine fl_end ?_
  clear hn
  subst ha
  dsimp only [fr, cnd, Act.put, cond_true]
  simp only [List.setIfInBounds_toArray, List.set_cons_zero, List.set_cons_succ]
  have hB3 : Below w.heap.size w w3 := hBb.trans (hb8.mono (by have := hB5.size; omega))
  rw [List.nil_append] at hO8
  have hN0 : (a ++ b).length = n + m := by rw [List.length_append, HN.out, HN2.out]
  have hAll := hO8.rd
  have hbk5 : Below ge w5 w3 := ((show Below ge w5 w6 from ba).trans hb7).trans hb8
  have hP : RdI ge w3 Ap ps := fun k x hk => by
    obtain ⟨ad, e, h1, h2⟩ := hP0 k x hk
    exact ⟨ad, e, by rw [← hge]; exact h1, (hbk5.cell (by rw [add_block, ← hge]; exact h1)).trans h2⟩
  have hge3 : ge ≤ w3.heap.size := by have := hb7.size; have := hb8.size; omega
  have hAf : ∀ x, x ∈ a ++ b → x.ky.size ≤ 20 := fun x hx => by
    rcases List.mem_append.1 hx with hx | hx
    · exact (cl_in (goodLs_mem hg hx)).1.2
    · exact (cl_in (goodLs_mem hg2 hx)).1.2
  have hN2000 : n + m ≤ 2000 := by omega
  clear hE hBa ba hO7 hb7 hBb hO8 hb8 hbk5 hP0 hB5 hge hge2
  generalize hall : a ++ b = all at hN0 hAll hAf HFIN
  clear hall
  generalize hNN : n + m = N at hN0 hAll hN2000 ⊢
  clear hNN
  go_wp2_with fail
  go_loopw [6, 25] (fun t6 i wr => ∃ (k : Nat) (A6 : Option Addr) (n6 c6 : Nat) (out : List ByteArray), k ≤ N ∧ i = .int .i64 k ∧ t6 = .slice A6 n6 c6 ∧ n6 ≤ k ∧ OwnS w3.heap.size wr A6 n6 c6 out ∧ Hid (DifI a b ps (all.take k) out) ∧ Below w3.heap.size w3 wr) (fun _ i _ => N - (intOf i).toNat)
  case atStart => exact ⟨0, none, 0, 0, [], Nat.zero_le _, rfl, rfl, Nat.le_refl _, OwnS.nil _ _, Lib.hid ⟨List.Pairwise.nil, by simp⟩, Below.refl _ _⟩
  case round =>
    obtain ⟨k, A6, n6, c6, out, hk, rfl, rfl, hn6, hO, hI, hW⟩ := hrel
    have hOs : ∀ y, y ∈ out → y.size ≤ maxLen := fun y hy => by
      obtain ⟨z, h1, rfl, _⟩ := (hI.out.2 y).1 hy
      have := hAf z (List.mem_of_mem_take h1)
      unfold maxLen
      omega
    by_cases hlt : k < N
    · obtain ⟨x, hx⟩ : ∃ x, all[k]? = some x := ⟨_, List.getElem?_eq_getElem (by omega)⟩
      have hTk : all.take (k + 1) = all.take k ++ [x] := by rw [List.take_add_one, hx]; rfl
      obtain ⟨ad, e7, _, hc⟩ := hAll.keep hW (Nat.le_refl _) k x.cells (by rw [List.getElem?_map, hx]; rfl)
      injection e7 with e7
      subst e7
      have i3 : (k : Int) < ((N : Nat) : Int) := by omega
      have hxf := hAf x (List.mem_of_getElem? hx)
      have ix := cix wr a7 N c7 k (by omega)
      have f0 := fix0 wr (a7.add (k * 4))
      have l0 := cl_key hc
      clear hc
      go_upto_region 7 with fail
      refine wp_region_lit ?_
      refine fl_start ?_
      generalize ha : Act.mk _ _ = a0
      have hn : a0.tmps.size = 101 := by rw [← ha]; kernel_rfl
      have h7 : (fr a0 []).eval (.tmp 7) = .slice (some a7) N c7 := by rw [← ha]; kernel_rfl
      refine fl_know hn rfl h7 ?_
      clear h7
      have h8 : (fr a0 [(7, true, .slice (some a7) N c7)]).eval (.tmp 8) = .int .i64 (k : Int) := by rw [← ha]; kernel_rfl
      refine fl_know hn rfl h8 ?_
      clear h8
      refine g_mv hn ?_
      refine g_mv hn ?_
      refine g_ix hn ?_
      refine g_fd hn ?_
      refine g_ld hn ?_
      refine g_as hn ?_
      refine fl_end ?_
      clear hn ix f0 l0
      subst ha
      dsimp only [fr, cnd, Act.put, cond_true]
      simp only [List.setIfInBounds_toArray, List.set_cons_zero, List.set_cons_succ]
      generalize hkey : x.ky = key
      generalize hw1 : wr = we at hO hW ⊢
      clear hw1
      go_wp2_with fail
      go_loopw [10, 35] (fun t10 i wf => ∃ (q : Nat) (bq : Bool), q ≤ np ∧ i = .int .i64 q ∧ t10 = .bool bq ∧ Hid (bq = true ↔ ((leafL key.data.toList : Nat) : Int) ∈ ps.take q) ∧ Below we.heap.size we wf) (fun _ i _ => np - (intOf i).toNat)
      case atStart => exact ⟨0, false, Nat.zero_le _, rfl, rfl, Lib.hid (by simp), Below.refl _ _⟩
      case round =>
        obtain ⟨q, bq, hq, rfl, rfl, hbq, hF⟩ := hrel
        generalize hw2 : wr = wf at hF ⊢
        clear hw2
        by_cases hlq : q < np
        · obtain ⟨j, hj⟩ : ∃ j, ps[q]? = some j := ⟨_, List.getElem?_eq_getElem (by omega)⟩
          have hTq : ps.take (q + 1) = ps.take q ++ [j] := by rw [List.take_add_one, hj]; rfl
          obtain ⟨ap, rfl, hbp, hcp⟩ := hP q j hj
          have c0 : ∀ W, Below wf.heap.size wf W → W.cell? (ap.add q) = some (.int .i64 j) := fun W h => (h.cell (by rw [add_block]; have := hF.size; have := hW.size; omega)).trans ((hF.cell (by rw [add_block]; have := hW.size; omega)).trans ((hW.cell (by rw [add_block]; omega)).trans hcp))
          have i5 : (q : Int) < ((np : Nat) : Int) := by omega
          clear hcp hj
          cases bq with
          | true =>
            have hb2 : Hid (true = true ↔ ((leafL key.data.toList : Nat) : Int) ∈ ps.take (q + 1)) := Lib.hid ⟨fun _ => by rw [hTq]; exact List.mem_append_left _ (hbq.out.1 rfl), fun _ => rfl⟩
            go_upto_region 12 with fail
            go_region
            have hF2 := hF
            go_wp2_with fail
            refine ⟨?_, ?_⟩
            · first
              | exact ⟨q + 1, true, by omega, by go_num, rfl, hb2, hF2.drew⟩
              | repeat apply Exists.intro
                refine ⟨?_, rfl⟩
                exact ⟨q + 1, true, by omega, by go_num, rfl, hb2, hF2.drew⟩
            · simp [intOf]; omega
          | false =>
            have f1 : ∀ W, (fun W => Below wf.heap.size wf W) W → _ := fun W _ => iix W ap np cp q hlq
            have f2 : ∀ W, (fun W => Below wf.heap.size wf W) W → _ := fun W h => load_int (c0 W h)
            go_upto_region 12 with fail
            refine fh_start (S := (fun W => Below wf.heap.size wf W)) (by kernel_rfl) ((Below.refl _ _).drew) (fun hS => ?_)
            generalize ha : Act.mk _ _ = a0
            have hn : a0.tmps.size = 101 := by rw [← ha]; kernel_rfl
            have h5 : (fr a0 []).eval (.tmp 5) = .slice (some ap) np cp := by rw [← ha]; kernel_rfl
            refine fh_know hn rfl h5 ?_
            clear h5
            have h9 : (fr a0 [(5, true, .slice (some ap) np cp)]).eval (.tmp 9) = .string key := by rw [← ha]; kernel_rfl
            refine fh_know hn rfl h9 ?_
            clear h9
            have h10 : (fr a0 [(9, true, .string key), (5, true, .slice (some ap) np cp)]).eval (.tmp 10) = .bool false := by rw [← ha]; kernel_rfl
            refine fh_know hn rfl h10 ?_
            clear h10
            have h11 : (fr a0 [(10, true, .bool false), (9, true, .string key), (5, true, .slice (some ap) np cp)]).eval (.tmp 11) = .int .i64 (q : Int) := by rw [← ha]; kernel_rfl
            refine fh_know hn rfl h11 ?_
            clear h11
            refine h_mv 0 hn hS ?_
            refine h_mv 1 hn hS ?_
            refine h_mv 2 hn hS ?_
            refine h_mv 3 hn hS ?_
            refine h_ix 4 hn hS ?_
            refine h_ld 5 hn hS ?_
            refine h_mv 6 hn hS ?_
            refine fh_callx 7 (d := 45) (R := fun v wz => v = .int .i64 (leafL key.data.toList : Nat) ∧ Below wf.drew.heap.size wf.drew wz) hn rfl (fun hk => call1_is en_spinney_spinneyref28_Leaf _ _ _ _ _ _ _ _ (.string key) (lk_at hk (i := 44) rfl (fun _ => rfl) rfl) rfl) ((refLeaf_any key wf.drew (by rw [← hkey]; omega)).mono fun _ _ ⟨he, hb3⟩ => ⟨_, he, rfl, hb3⟩) ?_ rfl rfl (by kernel_rfl) rfl
            rintro v wg ⟨rfl, hbg⟩
            have hS2 : (fun W => Below wf.heap.size wf W) wg := bel_un29 hbg
            refine ⟨hS2, ?_⟩
            refine h_eql2 8 hn hS2 ?_
            refine h_op 9 hn hS2 (fun W _ hk => x_or (fun _ => rfl) (lk_at hk (i := 39) rfl (fun _ => rfl) rfl) (fun _ => lk_at hk (i := 46) rfl (fun _ => rfl) rfl)) ?_
            refine h_as 10 hn hS2 ?_
            refine fh_end (by kernel_rfl) ?_
            clear hn f1 f2
            subst ha
            dsimp only [fr, cnd, Act.put, cond_true]
            simp only [List.setIfInBounds_toArray, List.set_cons_zero, List.set_cons_succ]
            have hF2 : Below we.heap.size we wg := hF.trans ((show Below wf.heap.size wf wg from hS2).mono hF.size)
            have hb2 : Hid ((false || (j == ((leafL key.data.toList : Nat) : Int))) = true ↔ ((leafL key.data.toList : Nat) : Int) ∈ ps.take (q + 1)) := by
              show _ ↔ _
              rw [hTq, List.mem_append, List.mem_singleton, Bool.false_or, beq_iff_eq]
              have h0 := hbq.out
              constructor
              · exact fun h => .inr h.symm
              · rintro (h | h)
                · exact absurd (h0.2 h) (by simp)
                · exact h.symm
            clear hS hS2 hbg hF c0
            go_wp2_with fail
            refine ⟨?_, ?_⟩
            · first
              | exact ⟨q + 1, _, by omega, by go_num, rfl, hb2, hF2⟩
              | repeat apply Exists.intro
                refine ⟨?_, rfl⟩
                exact ⟨q + 1, _, by omega, by go_num, rfl, hb2, hF2⟩
            · simp [intOf]; omega
        · have i5 : ¬ (q : Int) < ((np : Nat) : Int) := by omega
          have hqn : q = np := by omega
          rw [hqn, ← hps, List.take_length] at hbq
          have hWf : Below w3.heap.size w3 wf := hW.trans (hF.mono hW.size)
          have hOf := hO.keep hF
          have hBf : Below w.heap.size w wf := hB3.trans (hWf.mono hB3.size)
          clear hF hO hW
          cases bq with
          | false =>
            have hnp : ¬ ((leafL x.ky.data.toList : Nat) : Int) ∈ ps := fun h => by
              rw [hkey] at h
              exact absurd (hbq.out.2 h) (by simp)
            have HI2 : Hid (DifI a b ps (all.take (k + 1)) out) := by show DifI _ _ _ _ _; rw [hTk]; exact difI_no hI.out (fun h => hnp h.1)
            go_wp2_with fail
            refine ⟨?_, ?_⟩
            · first
              | exact ⟨k + 1, A6, n6, c6, out, by omega, by go_num, rfl, by omega, hOf, HI2, hWf⟩
              | repeat apply Exists.intro
                refine ⟨?_, rfl⟩
                exact ⟨k + 1, A6, n6, c6, out, by omega, by go_num, rfl, by omega, hOf, HI2, hWf⟩
            · simp [intOf]; omega
          | true =>
            have hinp : ((leafL x.ky.data.toList : Nat) : Int) ∈ ps := by rw [hkey]; exact hbq.out.1 rfl
            have cA := refAt_any A n c a key wf HN.out (HR.out wf hBf) (by omega)
            go_upto_region 14 with fail
            refine wp_region_lit ?_
            refine fl_start ?_
            generalize ha : Act.mk _ _ = a0
            have hn : a0.tmps.size = 101 := by rw [← ha]; kernel_rfl
            have h0 : (fr a0 []).eval (.tmp 0) = .slice A n c := by rw [← ha]; kernel_rfl
            refine fl_know hn rfl h0 ?_
            clear h0
            have h1 : (fr a0 [(0, true, .slice A n c)]).eval (.tmp 1) = .slice A2 m d := by rw [← ha]; kernel_rfl
            refine fl_know hn rfl h1 ?_
            clear h1
            have h9 : (fr a0 [(1, true, .slice A2 m d), (0, true, .slice A n c)]).eval (.tmp 9) = .string key := by rw [← ha]; kernel_rfl
            refine fl_know hn rfl h9 ?_
            clear h9
            have h10 : (fr a0 [(9, true, .string key), (1, true, .slice A2 m d), (0, true, .slice A n c)]).eval (.tmp 10) = .bool true := by rw [← ha]; kernel_rfl
            refine fl_know hn rfl h10 ?_
            clear h10
            refine g_mv hn ?_
            refine g_nt hn ?_
            refine g_mv hn ?_
            refine g_mv hn ?_
            refine g_mv hn ?_
            refine g_c2x en_spinney_spinneyref12_At hn (R := fun v wz => v = .agg #[.int .i64 (atV key a).1, .int .i64 (atV key a).2.1, .string (atV key a).2.2] ∧ Below wf.heap.size wf wz) (cA.mono fun _ _ ⟨he, hb3⟩ => ⟨_, he, rfl, hb3⟩) ?_
            rintro v wg ⟨rfl, hbg⟩
            have hBg : Below w.heap.size w wg := hBf.trans (hbg.mono hBf.size)
            refine g_mv hn ?_
            refine g_mv hn ?_
            refine g_c2x en_spinney_spinneyref12_At hn (R := fun v wz => v = .agg #[.int .i64 (atV key b).1, .int .i64 (atV key b).2.1, .string (atV key b).2.2] ∧ Below wg.heap.size wg wz) ((refAt_any A2 m d b key wg HN2.out (HR2.out wg hBg) (by omega)).mono fun _ _ ⟨he, hb3⟩ => ⟨_, he, rfl, hb3⟩) ?_
            rintro v wq ⟨rfl, hbh⟩
            have hkq : Below wf.heap.size wf wq := hbg.trans (hbh.mono hbg.size)
            have hO := hOf.keep hkq
            have hW : Below w3.heap.size w3 wq := hWf.trans (hkq.mono hWf.size)
            by_cases hv : atV key a = atV key b
            · rw [hv]
              refine g_bn hn ?_ (v := .bool true) (hr := val_eqY _ _ _ _)
              refine g_or hn ?_
              refine fl_end ?_
              clear hn cA
              subst ha
              dsimp only [fr, cnd, Act.put, cond_true]
              simp only [List.setIfInBounds_toArray, List.set_cons_zero, List.set_cons_succ]
              have HI2 : Hid (DifI a b ps (all.take (k + 1)) out) := by show DifI _ _ _ _ _; rw [hTk]; exact difI_no hI.out (fun h => h.2 (by rw [hkey]; exact hv))
              go_wp2_with fail
              refine ⟨?_, ?_⟩
              · first
                | exact ⟨k + 1, A6, n6, c6, out, by omega, by go_num, rfl, by omega, hO, HI2, hW⟩
                | repeat apply Exists.intro
                  refine ⟨?_, rfl⟩
                  exact ⟨k + 1, A6, n6, c6, out, by omega, by go_num, rfl, by omega, hO, HI2, hW⟩
              · simp [intOf]; omega
            · refine g_bn hn ?_ (v := .bool false) (hr := val_eqN _ _ _ _ hv _)
              refine g_or hn ?_
              refine fl_end ?_
              clear hn cA
              subst ha
              dsimp only [fr, cnd, Act.put, cond_true]
              simp only [List.setIfInBounds_toArray, List.set_cons_zero, List.set_cons_succ]
              have hvx : atV x.ky a ≠ atV x.ky b := by rw [hkey]; exact hv
              clear hOf hWf hBf hBg hbg hbh hkq
              generalize hw0 : wq = wq0 at hO hW ⊢
              clear hw0
              go_wp2_with fail
              go_loopw [12] (fun t12 wq => ∃ p : Nat, p ≤ n6 ∧ t12 = .int .i64 p ∧ Hid (∀ y, y ∈ out.take p → ltB y.data.toList key.data.toList = true) ∧ OwnS w3.heap.size wq A6 n6 c6 out ∧ Below w3.heap.size w3 wq) (fun t12 _ => n6 - (intOf t12).toNat)
              case atStart => exact ⟨0, Nat.zero_le _, rfl, Lib.hid (by simp), hO, hW⟩
              case round =>
                clear hO hW
                obtain ⟨p, hpn, rfl, hlo, hO, hW⟩ := hrel
                generalize hw3 : wr = wq at hO hW ⊢
                clear hw3
                by_cases hlp : p < n6
                · obtain ⟨y, hy⟩ : ∃ y, out[p]? = some y := ⟨_, List.getElem?_eq_getElem (by have := hO.len; omega)⟩
                  obtain ⟨a6, rfl, _, hcy⟩ := hO.rd p y hy
                  have hys : y.size ≤ maxLen := hOs y (List.mem_of_getElem? hy)
                  have i6 : (p : Int) < ((n6 : Nat) : Int) := by omega
                  have ix := six wq a6 n6 c6 p hlp
                  have l0 := ld_str hcy
                  have cT := texts_any y key wq hys (by rw [← hkey]; unfold maxLen; omega)
                  go_upto_region 16 with fail
                  refine wp_region_lit ?_
                  refine fl_start ?_
                  generalize ha : Act.mk _ _ = a0
                  have hn : a0.tmps.size = 101 := by rw [← ha]; kernel_rfl
                  have h6 : (fr a0 []).eval (.tmp 6) = .slice (some a6) n6 c6 := by rw [← ha]; kernel_rfl
                  refine fl_know hn rfl h6 ?_
                  clear h6
                  have h9 : (fr a0 [(6, true, .slice (some a6) n6 c6)]).eval (.tmp 9) = .string key := by rw [← ha]; kernel_rfl
                  refine fl_know hn rfl h9 ?_
                  clear h9
                  have h12 : (fr a0 [(9, true, .string key), (6, true, .slice (some a6) n6 c6)]).eval (.tmp 12) = .int .i64 (p : Int) := by rw [← ha]; kernel_rfl
                  refine fl_know hn rfl h12 ?_
                  clear h12
                  refine g_mv hn ?_
                  refine g_mv hn ?_
                  refine g_ln hn ?_
                  refine g_lss2 hn ?_
                  rw [show decide ((p : Int) < ((n6 : Nat) : Int)) = true by simpa using hlp]
                  refine g_mv hn ?_
                  refine g_mv hn ?_
                  refine g_mv hn ?_
                  refine g_ix hn ?_
                  refine g_ld hn ?_
                  refine g_mv hn ?_
                  refine g_c2x en_spinney_spinneyref01_Texts hn (R := fun u wz => u = .int .i64 (Lib.compareBytes y.data.toList key.data.toList) ∧ Below wq.heap.size wq wz) (cT.mono fun _ _ ⟨h1, h2⟩ => ⟨_, h1, rfl, h2⟩) ?_
                  rintro u wt ⟨rfl, hbt⟩
                  refine g_lss hn ?_
                  refine g_an hn ?_
                  refine fl_end ?_
                  clear hn ix l0 cT
                  subst ha
                  dsimp only [fr, cnd, Act.put, cond_true]
                  simp only [List.setIfInBounds_toArray, List.set_cons_zero, List.set_cons_succ]
                  have hOt := hO.keep hbt
                  have hWt : Below w3.heap.size w3 wt := hW.trans (hbt.mono hW.size)
                  clear hO hW hbt
                  cases hlt3 : ltB y.data.toList key.data.toList with
                  | true =>
                    rw [show (true && decide (Lib.compareBytes y.data.toList key.data.toList < 0)) = true from hlt3]
                    have hlo2 : Hid (∀ y, y ∈ out.take (p + 1) → ltB y.data.toList key.data.toList = true) := Lib.hid fun z hz => by
                      rw [List.take_add_one, hy] at hz
                      rcases List.mem_append.1 hz with hz | hz
                      · exact hlo.out z hz
                      · have e : z = y := by simpa using hz
                        rw [e]
                        exact hlt3
                    go_wp2_with fail
                    refine ⟨?_, ?_⟩
                    · first
                      | exact ⟨p + 1, by omega, by go_num, hlo2, hOt, hWt⟩
                      | repeat apply Exists.intro
                        refine ⟨?_, rfl⟩
                        exact ⟨p + 1, by omega, by go_num, hlo2, hOt, hWt⟩
                    · simp [intOf]; omega
                  | false =>
                    rw [show (true && decide (Lib.compareBytes y.data.toList key.data.toList < 0)) = false from hlt3]
                    clear hcy
                    generalize hw0 : wt = wq at hOt hWt ⊢
                    clear hw0
                    have hO := hOt
                    have hW := hWt
                    clear hOt hWt
                    obtain ⟨a7', e6, _, hcy⟩ := hO.rd p y hy
                    injection e6 with e6
                    subst e6
                    have ix := six wq a6 n6 c6 p hlp
                    have l0 := ld_str hcy
                    have hpe : ((p : Int) == ((n6 : Nat) : Int)) = false := by rw [beq_eq_false_iff_ne]; omega
                    go_upto_region 18 with fail
                    refine wp_region_lit ?_
                    refine fl_start ?_
                    generalize ha : Act.mk _ _ = a0
                    have hn : a0.tmps.size = 101 := by rw [← ha]; kernel_rfl
                    have h6 : (fr a0 []).eval (.tmp 6) = .slice (some a6) n6 c6 := by rw [← ha]; kernel_rfl
                    refine fl_know hn rfl h6 ?_
                    clear h6
                    have h9 : (fr a0 [(6, true, .slice (some a6) n6 c6)]).eval (.tmp 9) = .string key := by rw [← ha]; kernel_rfl
                    refine fl_know hn rfl h9 ?_
                    clear h9
                    have h12 : (fr a0 [(9, true, .string key), (6, true, .slice (some a6) n6 c6)]).eval (.tmp 12) = .int .i64 (p : Int) := by rw [← ha]; kernel_rfl
                    refine fl_know hn rfl h12 ?_
                    clear h12
                    refine g_mv hn ?_
                    refine g_mv hn ?_
                    refine g_ln hn ?_
                    refine g_eql2 hn ?_
                    rw [hpe]
                    refine g_mv hn ?_
                    refine g_mv hn ?_
                    refine g_mv hn ?_
                    refine g_ix hn ?_
                    refine g_ld hn ?_
                    refine g_mv hn ?_
                    by_cases hye : y.data.toList = key.data.toList
                    · have hd2 : (!decide (y.data.toList = key.data.toList)) = false := by simpa using hye
                      refine g_bn hn ?_ (v := .bool false) (hr := q_nev _ _ _ _ _ hd2)
                      refine g_or hn ?_
                      refine fl_end ?_
                      clear hn ix l0
                      subst ha
                      dsimp only [fr, cnd, Act.put, cond_true]
                      simp only [List.setIfInBounds_toArray, List.set_cons_zero, List.set_cons_succ]
                      have HI2 : Hid (DifI a b ps (all.take (k + 1)) out) := by
                        show DifI _ _ _ _ _
                        rw [hTk]
                        refine difI_yes hI.out ⟨hinp, hvx⟩ hI.out.1 fun z => ⟨.inl, ?_⟩
                        rintro (h | h)
                        · exact h
                        · rw [h, hkey, ← byt_ext hye]
                          exact List.mem_of_getElem? hy
                      go_wp2_with fail
                      refine ⟨?_, ?_⟩
                      · first
                        | exact ⟨k + 1, some a6, n6, c6, out, by omega, by go_num, rfl, by omega, hO, HI2, hW⟩
                        | repeat apply Exists.intro
                          refine ⟨?_, rfl⟩
                          exact ⟨k + 1, some a6, n6, c6, out, by omega, by go_num, rfl, by omega, hO, HI2, hW⟩
                      · simp [intOf]; omega
                    · have hd2 : (!decide (y.data.toList = key.data.toList)) = true := by simpa using hye
                      refine g_bn hn ?_ (v := .bool true) (hr := q_nev _ _ _ _ _ hd2)
                      refine g_or hn ?_
                      refine fl_end ?_
                      clear hn ix l0
                      subst ha
                      dsimp only [fr, cnd, Act.put, cond_true]
                      simp only [List.setIfInBounds_toArray, List.set_cons_zero, List.set_cons_succ]
                      have hins := ins_rise (key := key) (p := p) hI.out.1 (by rw [hO.len]; omega) hlo.out (fun z hz => by
                        rw [hy] at hz
                        injection hz with hz
                        subst hz
                        exact ⟨hlt3, hye⟩)
                      have HI2 : Hid (DifI a b ps (all.take (k + 1)) (out.take p ++ ([key] ++ out.drop p))) := by
                        show DifI _ _ _ _ _
                        rw [hTk]
                        exact difI_yes hI.out ⟨hinp, hvx⟩ hins.1 (by rw [hkey]; exact hins.2)
                      clear hins hcy
                      generalize hA6 : (some a6 : Option Addr) = A6 at hO ⊢
                      clear hA6
                      go_upto_region 19 with fail
                      have q1 : ∀ W : World, (Instr.sliceAt 24 (.slice A6 n6 c6) none (some (.int .i64 (p : Int))) none).run Try.prog W = .ok (.slice A6 p c6) W := fun W => run_headS W A6 n6 c6 p hpn hO.cap.1
                      have q2 : ∀ W : World, (Instr.sliceAt 24 (.slice A6 n6 c6) (some (.int .i64 (p : Int))) none none).run Try.prog W = .ok (.slice (if c6 = p then A6 else A6.map (·.add p)) (n6 - p) (c6 - p)) W := fun W => run_cutG W A6 n6 c6 p hpn
                      generalize hAd : (if c6 = p then A6 else A6.map (·.add p)) = Ad at q2
                      obtain ⟨i0, hi0, hz0, hz1, hz2⟩ := info_parts str_info
                      have htk : (out.take p).length = p := by rw [List.length_take, hO.len]; omega
                      skip
                      refine fh_start (S := (fun W => OwnS w3.heap.size W A6 n6 c6 out ∧ Below wq.heap.size wq W)) (by kernel_rfl) (⟨hO, (Below.refl _ _).drew⟩) (fun hS => ?_)
                      generalize ha : Act.mk _ _ = a0
                      have hn : a0.tmps.size = 101 := by rw [← ha]; kernel_rfl
                      have h6 : (fr a0 []).eval (.tmp 6) = .slice A6 n6 c6 := by rw [← ha]; kernel_rfl
                      refine fh_know hn rfl h6 ?_
                      clear h6
                      have h9 : (fr a0 [(6, true, .slice A6 n6 c6)]).eval (.tmp 9) = .string key := by rw [← ha]; kernel_rfl
                      refine fh_know hn rfl h9 ?_
                      clear h9
                      have h12 : (fr a0 [(9, true, .string key), (6, true, .slice A6 n6 c6)]).eval (.tmp 12) = .int .i64 (p : Int) := by rw [← ha]; kernel_rfl
                      refine fh_know hn rfl h12 ?_
                      clear h12
                      refine h_mv 1 hn hS ?_
                      refine h_mv 2 hn hS ?_
                      refine h_op 3 hn hS (fun W _ hk => x_shiC (lk_at hk (i := 88) rfl (fun _ => rfl) rfl) (lk_at hk (i := 89) rfl (fun _ => rfl) rfl) (q1 W)) ?_
                      refine h_mv 5 hn hS ?_
                      refine h_mv 8 hn hS ?_
                      refine h_mv 9 hn hS ?_
                      refine h_op 10 hn hS (fun W _ hk => x_sloC (lk_at hk (i := 95) rfl (fun _ => rfl) rfl) (lk_at hk (i := 96) rfl (fun _ => rfl) rfl) (q2 W)) ?_
                      refine fh_two (i := 0) (j := 6) (by kernel_rfl) ?_ ?_
                      · have ba := b0 wq.drew (.cells #[] 9)
                        have hE := OwnS.lit wq.drew (base := wq.heap.size) #[] [] rfl rfl (Nat.le_refl _) (Nat.zero_le _)
                        have hbE : Below wq.heap.size wq (wq.drew.alloc (.cells #[] 9)) := bel_un29 ba
                        have hSE : (fun W => OwnS w3.heap.size W A6 n6 c6 out ∧ Below wq.heap.size wq W) (wq.drew.alloc (.cells #[] 9)) := ⟨hO.keep hbE, hbE⟩
                        refine one_valx (d := 87) hn rfl (fun hk => x_bsS0) hSE ?_ rfl rfl rfl
                        generalize hg0 : wq.drew.heap.size = g0 at hE ⊢
                        generalize wq.drew.alloc (.cells #[] 9) = v1 at hE hbE hSE ba ⊢
                        clear ba hg0
                        refine fh_two (i := 4) (j := 6) (by kernel_rfl) ?_ ?_
                        · have hrt := (hSE.1.rd.take p)
                          obtain ⟨A1, c1, v2, hr1, hR1, hb1, _⟩ := run_apS (P := Try.prog) (ty := 24) (n := 0) (d := c6) v1 Try.underlying24 Try.underlying24 hi0 hz0 hz1 hz2 hE hrt htk (by omega) hbE.size
                          rw [List.nil_append, Nat.zero_add] at hR1
                          rw [Nat.zero_add] at hr1
                          have hbv := hbE.trans hb1
                          have hSv : (fun W => OwnS w3.heap.size W A6 n6 c6 out ∧ Below wq.heap.size wq W) v2 := ⟨hO.keep hbv, hbv⟩
                          refine one_valx (d := 91) hn rfl (fun hk => x_ap (lk_at hk (i := 87) rfl (fun _ => rfl) rfl) (lk_at hk (i := 90) rfl (fun _ => rfl) rfl) hr1) hSv ?_ rfl rfl rfl
                          have bb := b0 v2 (.cells #[.string key] 9)
                          have hbv' := hbv.trans (bb.mono hbv.size)
                          have hSv' : (fun W => OwnS w3.heap.size W A6 n6 c6 out ∧ Below wq.heap.size wq W) (v2.alloc (.cells #[.string key] 9)) := ⟨hO.keep hbv', hbv'⟩
                          refine fh_valx 6 (d := 93) hn rfl (fun hk => x_bsS1 (lk_at hk (i := 92) rfl (fun _ => rfl) rfl)) hSv' ?_ rfl rfl (by kernel_rfl) rfl
                          have hKv := rdS_one (blk_new v2 #[.string key] 9)
                          replace hR1 := hR1.keep bb
                          replace hSv := hSv'
                          replace hbv := hbv'
                          clear hSv' hbv' bb hE hSE hbE hr1 hb1 hrt
                          generalize v2.heap.size = gk at hKv ⊢
                          generalize v2.alloc (.cells #[.string key] 9) = v3 at hKv hR1 hSv hbv ⊢
                          have hOv : OwnS w3.heap.size v3 A6 n6 c6 out := hSv.1
                          obtain ⟨A7, c7, u7, hr7, hO7, hb7, _⟩ := run_apS (P := Try.prog) (ty := 24) (n := p) (m := 1) (d := 1) v3 Try.underlying24 Try.underlying24 hi0 hz0 hz1 hz2 hR1 hKv rfl (by omega) hbv.size
                          have hb17 := hbv.trans hb7
                          have hS7 : (fun W => OwnS w3.heap.size W A6 n6 c6 out ∧ Below wq.heap.size wq W) u7 := ⟨hO.keep hb17, hb17⟩
                          refine fh_valx 7 (d := 94) hn rfl (fun hk => x_ap (lk_at hk (i := 91) rfl (fun _ => rfl) rfl) (lk_at hk (i := 93) rfl (fun _ => rfl) rfl) hr7) hS7 ?_ rfl rfl (by kernel_rfl) rfl
                          have hrd := hS7.1.rd.drop (m := p) (c := c6) (by rw [hS7.1.len]; exact hS7.1.cap.1)
                          rw [hAd] at hrd
                          obtain ⟨A8, c8, u8, hr8, hO8, hb8, _⟩ := run_apS (P := Try.prog) (ty := 24) (n := p + 1) (m := n6 - p) (d := c6 - p) u7 Try.underlying24 Try.underlying24 hi0 hz0 hz1 hz2 hO7 hrd (by rw [List.length_drop, hS7.1.len]) (by omega) hb17.size
                          have hb18 := hb17.trans hb8
                          have hS8 : (fun W => OwnS w3.heap.size W A6 n6 c6 out ∧ Below wq.heap.size wq W) u8 := ⟨hO.keep hb18, hb18⟩
                          refine fh_valx 11 (d := 98) hn rfl (fun hk => x_ap (lk_at hk (i := 94) rfl (fun _ => rfl) rfl) (lk_at hk (i := 97) rfl (fun _ => rfl) rfl) hr8) hS8 ?_ rfl rfl (by kernel_rfl) rfl
                          refine h_as 12 hn hS8 ?_
                          refine fh_end (by kernel_rfl) ?_
                          clear hn
                          subst ha
                          dsimp only [fr, cnd, Act.put, cond_true]
                          simp only [List.setIfInBounds_toArray, List.set_cons_zero, List.set_cons_succ]
                          have hO9 : OwnS w3.heap.size u8 A8 (p + 1 + (n6 - p)) c8 (out.take p ++ ([key] ++ out.drop p)) := by
                            rw [← List.append_assoc]
                            exact hO8.less (by have := hW.size; omega)
                          have hW9 : Below w3.heap.size w3 u8 := hW.trans (hb18.mono hW.size)
                          clear hAd hOv hS7 hS8 hO7 hO8 hr7 hr8 hrd hR1 hKv hbv hSv q1 q2 htk hi0 hz0 hz1 hz2 hb7 hb8 hb17 hb18 hlo hI hOs hAll hAf HFIN hP HR HR2 HN HN2 hS hO hW
                          go_wp2_with fail
                          refine ⟨?_, ?_⟩
                          · first
                            | exact ⟨k + 1, A8, p + 1 + (n6 - p), c8, _, by omega, by go_num, rfl, by omega, hO9, HI2, hW9⟩
                            | repeat apply Exists.intro
                              refine ⟨?_, rfl⟩
                              exact ⟨k + 1, A8, p + 1 + (n6 - p), c8, _, by omega, by go_num, rfl, by omega, hO9, HI2, hW9⟩
                          · simp [intOf]; omega
                        · have bb := b0 v1 (.cells #[.string key] 9)
                          have hKk := rdS_one (blk_new v1 #[.string key] 9)
                          have hgk : v1.heap.size ≠ g0 := by have := (hE.blk rfl).2; show v1.heap.size ≠ (⟨g0, 0, none⟩ : Addr).block; omega
                          replace hE := hE.keep bb
                          have hbE' := hbE.trans (bb.mono hbE.size)
                          have hSE' : (fun W => OwnS w3.heap.size W A6 n6 c6 out ∧ Below wq.heap.size wq W) (v1.alloc (.cells #[.string key] 9)) := ⟨hO.keep hbE', hbE'⟩
                          refine one_valx (d := 93) hn rfl (fun hk => x_bsS1 (lk_at hk (i := 92) rfl (fun _ => rfl) rfl)) hSE' ?_ rfl rfl rfl
                          replace hSE := hSE'
                          replace hbE := hbE'
                          clear hSE' hbE' bb
                          generalize v1.heap.size = gk at hKk hgk ⊢
                          generalize v1.alloc (.cells #[.string key] 9) = v2 at hKk hE hbE hSE ⊢
                          have hrt := (hSE.1.rd.take p)
                          obtain ⟨A1, c1, v3, hr1, hR1, hb1, hg1⟩ := run_apS (P := Try.prog) (ty := 24) (n := 0) (d := c6) v2 Try.underlying24 Try.underlying24 hi0 hz0 hz1 hz2 hE hrt htk (by omega) hbE.size
                          rw [List.nil_append, Nat.zero_add] at hR1
                          rw [Nat.zero_add] at hr1
                          have hbv := hbE.trans hb1
                          have hSv : (fun W => OwnS w3.heap.size W A6 n6 c6 out ∧ Below wq.heap.size wq W) v3 := ⟨hO.keep hbv, hbv⟩
                          refine fh_valx 4 (d := 91) hn rfl (fun hk => x_ap (lk_at hk (i := 87) rfl (fun _ => rfl) rfl) (lk_at hk (i := 90) rfl (fun _ => rfl) rfl) hr1) hSv ?_ rfl rfl (by kernel_rfl) rfl
                          have hKv := (hKk.grown hg1 (Nat.le_refl _) (fun y hy e => by
                            injection hy with hy
                            subst hy
                            injection e with e
                            exact hgk e)).more hg1.size
                          clear hE hSE hbE hr1 hb1 hrt hg1 hKk
                          have hOv : OwnS w3.heap.size v3 A6 n6 c6 out := hSv.1
                          obtain ⟨A7, c7, u7, hr7, hO7, hb7, _⟩ := run_apS (P := Try.prog) (ty := 24) (n := p) (m := 1) (d := 1) v3 Try.underlying24 Try.underlying24 hi0 hz0 hz1 hz2 hR1 hKv rfl (by omega) hbv.size
                          have hb17 := hbv.trans hb7
                          have hS7 : (fun W => OwnS w3.heap.size W A6 n6 c6 out ∧ Below wq.heap.size wq W) u7 := ⟨hO.keep hb17, hb17⟩
                          refine fh_valx 7 (d := 94) hn rfl (fun hk => x_ap (lk_at hk (i := 91) rfl (fun _ => rfl) rfl) (lk_at hk (i := 93) rfl (fun _ => rfl) rfl) hr7) hS7 ?_ rfl rfl (by kernel_rfl) rfl
                          have hrd := hS7.1.rd.drop (m := p) (c := c6) (by rw [hS7.1.len]; exact hS7.1.cap.1)
                          rw [hAd] at hrd
                          obtain ⟨A8, c8, u8, hr8, hO8, hb8, _⟩ := run_apS (P := Try.prog) (ty := 24) (n := p + 1) (m := n6 - p) (d := c6 - p) u7 Try.underlying24 Try.underlying24 hi0 hz0 hz1 hz2 hO7 hrd (by rw [List.length_drop, hS7.1.len]) (by omega) hb17.size
                          have hb18 := hb17.trans hb8
                          have hS8 : (fun W => OwnS w3.heap.size W A6 n6 c6 out ∧ Below wq.heap.size wq W) u8 := ⟨hO.keep hb18, hb18⟩
                          refine fh_valx 11 (d := 98) hn rfl (fun hk => x_ap (lk_at hk (i := 94) rfl (fun _ => rfl) rfl) (lk_at hk (i := 97) rfl (fun _ => rfl) rfl) hr8) hS8 ?_ rfl rfl (by kernel_rfl) rfl
                          refine h_as 12 hn hS8 ?_
                          refine fh_end (by kernel_rfl) ?_
                          clear hn
                          subst ha
                          dsimp only [fr, cnd, Act.put, cond_true]
                          simp only [List.setIfInBounds_toArray, List.set_cons_zero, List.set_cons_succ]
                          have hO9 : OwnS w3.heap.size u8 A8 (p + 1 + (n6 - p)) c8 (out.take p ++ ([key] ++ out.drop p)) := by
                            rw [← List.append_assoc]
                            exact hO8.less (by have := hW.size; omega)
                          have hW9 : Below w3.heap.size w3 u8 := hW.trans (hb18.mono hW.size)
                          clear hAd hOv hS7 hS8 hO7 hO8 hr7 hr8 hrd hR1 hKv hbv hSv q1 q2 htk hi0 hz0 hz1 hz2 hb7 hb8 hb17 hb18 hlo hI hOs hAll hAf HFIN hP HR HR2 HN HN2 hS hO hW
                          go_wp2_with fail
                          refine ⟨?_, ?_⟩
                          · first
                            | exact ⟨k + 1, A8, p + 1 + (n6 - p), c8, _, by omega, by go_num, rfl, by omega, hO9, HI2, hW9⟩
                            | repeat apply Exists.intro
                              refine ⟨?_, rfl⟩
                              exact ⟨k + 1, A8, p + 1 + (n6 - p), c8, _, by omega, by go_num, rfl, by omega, hO9, HI2, hW9⟩
                          · simp [intOf]; omega
                      · have ba := b0 wq.drew (.cells #[.string key] 9)
                        have hKa := rdS_one (blk_new wq.drew #[.string key] 9)
                        have hbA : Below wq.heap.size wq (wq.drew.alloc (.cells #[.string key] 9)) := bel_un29 ba
                        have hSA : (fun W => OwnS w3.heap.size W A6 n6 c6 out ∧ Below wq.heap.size wq W) (wq.drew.alloc (.cells #[.string key] 9)) := ⟨hO.keep hbA, hbA⟩
                        refine one_valx (d := 93) hn rfl (fun hk => x_bsS1 (lk_at hk (i := 92) rfl (fun _ => rfl) rfl)) hSA ?_ rfl rfl rfl
                        have hgl : wq.drew.heap.size < (wq.drew.alloc (.cells #[.string key] 9)).heap.size := (blk_new wq.drew #[.string key] 9).lt
                        generalize wq.drew.heap.size = gk at hKa hgl ⊢
                        generalize wq.drew.alloc (.cells #[.string key] 9) = v1 at hKa hbA hSA hgl ba ⊢
                        clear ba
                        have bb := b0 v1 (.cells #[] 9)
                        have hE := OwnS.lit v1 (base := wq.heap.size) #[] [] rfl rfl hbA.size (Nat.zero_le _)
                        have hbE := hbA.trans (bb.mono hbA.size)
                        have hSE : (fun W => OwnS w3.heap.size W A6 n6 c6 out ∧ Below wq.heap.size wq W) (v1.alloc (.cells #[] 9)) := ⟨hO.keep hbE, hbE⟩
                        refine fh_valx 0 (d := 87) hn rfl (fun hk => x_bsS0) hSE ?_ rfl rfl (by kernel_rfl) rfl
                        have hKk := (hKa.keep bb (Nat.le_refl _)).more bb.size
                        have hgk : gk ≠ v1.heap.size := by omega
                        clear bb hbA hSA hKa hgl
                        generalize v1.heap.size = g0 at hE hgk ⊢
                        generalize v1.alloc (.cells #[] 9) = v2 at hKk hE hbE hSE ⊢
                        have hrt := (hSE.1.rd.take p)
                        obtain ⟨A1, c1, v3, hr1, hR1, hb1, hg1⟩ := run_apS (P := Try.prog) (ty := 24) (n := 0) (d := c6) v2 Try.underlying24 Try.underlying24 hi0 hz0 hz1 hz2 hE hrt htk (by omega) hbE.size
                        rw [List.nil_append, Nat.zero_add] at hR1
                        rw [Nat.zero_add] at hr1
                        have hbv := hbE.trans hb1
                        have hSv : (fun W => OwnS w3.heap.size W A6 n6 c6 out ∧ Below wq.heap.size wq W) v3 := ⟨hO.keep hbv, hbv⟩
                        refine fh_valx 4 (d := 91) hn rfl (fun hk => x_ap (lk_at hk (i := 87) rfl (fun _ => rfl) rfl) (lk_at hk (i := 90) rfl (fun _ => rfl) rfl) hr1) hSv ?_ rfl rfl (by kernel_rfl) rfl
                        have hKv := (hKk.grown hg1 (Nat.le_refl _) (fun y hy e => by
                          injection hy with hy
                          subst hy
                          injection e with e
                          exact hgk e)).more hg1.size
                        clear hE hSE hbE hr1 hb1 hrt hg1 hKk
                        have hOv : OwnS w3.heap.size v3 A6 n6 c6 out := hSv.1
                        obtain ⟨A7, c7, u7, hr7, hO7, hb7, _⟩ := run_apS (P := Try.prog) (ty := 24) (n := p) (m := 1) (d := 1) v3 Try.underlying24 Try.underlying24 hi0 hz0 hz1 hz2 hR1 hKv rfl (by omega) hbv.size
                        have hb17 := hbv.trans hb7
                        have hS7 : (fun W => OwnS w3.heap.size W A6 n6 c6 out ∧ Below wq.heap.size wq W) u7 := ⟨hO.keep hb17, hb17⟩
                        refine fh_valx 7 (d := 94) hn rfl (fun hk => x_ap (lk_at hk (i := 91) rfl (fun _ => rfl) rfl) (lk_at hk (i := 93) rfl (fun _ => rfl) rfl) hr7) hS7 ?_ rfl rfl (by kernel_rfl) rfl
                        have hrd := hS7.1.rd.drop (m := p) (c := c6) (by rw [hS7.1.len]; exact hS7.1.cap.1)
                        rw [hAd] at hrd
                        obtain ⟨A8, c8, u8, hr8, hO8, hb8, _⟩ := run_apS (P := Try.prog) (ty := 24) (n := p + 1) (m := n6 - p) (d := c6 - p) u7 Try.underlying24 Try.underlying24 hi0 hz0 hz1 hz2 hO7 hrd (by rw [List.length_drop, hS7.1.len]) (by omega) hb17.size
                        have hb18 := hb17.trans hb8
                        have hS8 : (fun W => OwnS w3.heap.size W A6 n6 c6 out ∧ Below wq.heap.size wq W) u8 := ⟨hO.keep hb18, hb18⟩
                        refine fh_valx 11 (d := 98) hn rfl (fun hk => x_ap (lk_at hk (i := 94) rfl (fun _ => rfl) rfl) (lk_at hk (i := 97) rfl (fun _ => rfl) rfl) hr8) hS8 ?_ rfl rfl (by kernel_rfl) rfl
                        refine h_as 12 hn hS8 ?_
                        refine fh_end (by kernel_rfl) ?_
                        clear hn
                        subst ha
                        dsimp only [fr, cnd, Act.put, cond_true]
                        simp only [List.setIfInBounds_toArray, List.set_cons_zero, List.set_cons_succ]
                        have hO9 : OwnS w3.heap.size u8 A8 (p + 1 + (n6 - p)) c8 (out.take p ++ ([key] ++ out.drop p)) := by
                          rw [← List.append_assoc]
                          exact hO8.less (by have := hW.size; omega)
                        have hW9 : Below w3.heap.size w3 u8 := hW.trans (hb18.mono hW.size)
                        clear hAd hOv hS7 hS8 hO7 hO8 hr7 hr8 hrd hR1 hKv hbv hSv q1 q2 htk hi0 hz0 hz1 hz2 hb7 hb8 hb17 hb18 hlo hI hOs hAll hAf HFIN hP HR HR2 HN HN2 hS hO hW
                        go_wp2_with fail
                        refine ⟨?_, ?_⟩
                        · first
                          | exact ⟨k + 1, A8, p + 1 + (n6 - p), c8, _, by omega, by go_num, rfl, by omega, hO9, HI2, hW9⟩
                          | repeat apply Exists.intro
                            refine ⟨?_, rfl⟩
                            exact ⟨k + 1, A8, p + 1 + (n6 - p), c8, _, by omega, by go_num, rfl, by omega, hO9, HI2, hW9⟩
                        · simp [intOf]; omega
                · have hpe : p = n6 := by omega
                  have i6 : ¬ (p : Int) < ((n6 : Nat) : Int) := by omega
                  have i7 : ((p : Int) == ((n6 : Nat) : Int)) = true := by rw [beq_iff_eq]; omega
                  have hins := ins_rise (key := key) (p := p) hI.out.1 (by rw [hO.len]; omega) hlo.out (fun z hz => by
                    rw [List.getElem?_eq_none (by rw [hO.len]; omega)] at hz
                    cases hz)
                  have HI2 : Hid (DifI a b ps (all.take (k + 1)) (out.take p ++ ([key] ++ out.drop p))) := by
                    show DifI _ _ _ _ _
                    rw [hTk]
                    exact difI_yes hI.out ⟨hinp, hvx⟩ hins.1 (by rw [hkey]; exact hins.2)
                  clear hins
                  go_upto_region 19 with fail
                  have q1 : ∀ W : World, (Instr.sliceAt 24 (.slice A6 n6 c6) none (some (.int .i64 (p : Int))) none).run Try.prog W = .ok (.slice A6 p c6) W := fun W => run_headS W A6 n6 c6 p hpn hO.cap.1
                  have q2 : ∀ W : World, (Instr.sliceAt 24 (.slice A6 n6 c6) (some (.int .i64 (p : Int))) none none).run Try.prog W = .ok (.slice (if c6 = p then A6 else A6.map (·.add p)) (n6 - p) (c6 - p)) W := fun W => run_cutG W A6 n6 c6 p hpn
                  generalize hAd : (if c6 = p then A6 else A6.map (·.add p)) = Ad at q2
                  obtain ⟨i0, hi0, hz0, hz1, hz2⟩ := info_parts str_info
                  have htk : (out.take p).length = p := by rw [List.length_take, hO.len]; omega
                  skip
                  refine fh_start (S := (fun W => OwnS w3.heap.size W A6 n6 c6 out ∧ Below wq.heap.size wq W)) (by kernel_rfl) (⟨hO, (Below.refl _ _).drew⟩) (fun hS => ?_)
                  generalize ha : Act.mk _ _ = a0
                  have hn : a0.tmps.size = 101 := by rw [← ha]; kernel_rfl
                  have h6 : (fr a0 []).eval (.tmp 6) = .slice A6 n6 c6 := by rw [← ha]; kernel_rfl
                  refine fh_know hn rfl h6 ?_
                  clear h6
                  have h9 : (fr a0 [(6, true, .slice A6 n6 c6)]).eval (.tmp 9) = .string key := by rw [← ha]; kernel_rfl
                  refine fh_know hn rfl h9 ?_
                  clear h9
                  have h12 : (fr a0 [(9, true, .string key), (6, true, .slice A6 n6 c6)]).eval (.tmp 12) = .int .i64 (p : Int) := by rw [← ha]; kernel_rfl
                  refine fh_know hn rfl h12 ?_
                  clear h12
                  refine h_mv 1 hn hS ?_
                  refine h_mv 2 hn hS ?_
                  refine h_op 3 hn hS (fun W _ hk => x_shiC (lk_at hk (i := 88) rfl (fun _ => rfl) rfl) (lk_at hk (i := 89) rfl (fun _ => rfl) rfl) (q1 W)) ?_
                  refine h_mv 5 hn hS ?_
                  refine h_mv 8 hn hS ?_
                  refine h_mv 9 hn hS ?_
                  refine h_op 10 hn hS (fun W _ hk => x_sloC (lk_at hk (i := 95) rfl (fun _ => rfl) rfl) (lk_at hk (i := 96) rfl (fun _ => rfl) rfl) (q2 W)) ?_
                  refine fh_two (i := 0) (j := 6) (by kernel_rfl) ?_ ?_
                  · have ba := b0 wq.drew (.cells #[] 9)
                    have hE := OwnS.lit wq.drew (base := wq.heap.size) #[] [] rfl rfl (Nat.le_refl _) (Nat.zero_le _)
                    have hbE : Below wq.heap.size wq (wq.drew.alloc (.cells #[] 9)) := bel_un29 ba
                    have hSE : (fun W => OwnS w3.heap.size W A6 n6 c6 out ∧ Below wq.heap.size wq W) (wq.drew.alloc (.cells #[] 9)) := ⟨hO.keep hbE, hbE⟩
                    refine one_valx (d := 87) hn rfl (fun hk => x_bsS0) hSE ?_ rfl rfl rfl
                    generalize hg0 : wq.drew.heap.size = g0 at hE ⊢
                    generalize wq.drew.alloc (.cells #[] 9) = v1 at hE hbE hSE ba ⊢
                    clear ba hg0
                    refine fh_two (i := 4) (j := 6) (by kernel_rfl) ?_ ?_
                    · have hrt := (hSE.1.rd.take p)
                      obtain ⟨A1, c1, v2, hr1, hR1, hb1, _⟩ := run_apS (P := Try.prog) (ty := 24) (n := 0) (d := c6) v1 Try.underlying24 Try.underlying24 hi0 hz0 hz1 hz2 hE hrt htk (by omega) hbE.size
                      rw [List.nil_append, Nat.zero_add] at hR1
                      rw [Nat.zero_add] at hr1
                      have hbv := hbE.trans hb1
                      have hSv : (fun W => OwnS w3.heap.size W A6 n6 c6 out ∧ Below wq.heap.size wq W) v2 := ⟨hO.keep hbv, hbv⟩
                      refine one_valx (d := 91) hn rfl (fun hk => x_ap (lk_at hk (i := 87) rfl (fun _ => rfl) rfl) (lk_at hk (i := 90) rfl (fun _ => rfl) rfl) hr1) hSv ?_ rfl rfl rfl
                      have bb := b0 v2 (.cells #[.string key] 9)
                      have hbv' := hbv.trans (bb.mono hbv.size)
                      have hSv' : (fun W => OwnS w3.heap.size W A6 n6 c6 out ∧ Below wq.heap.size wq W) (v2.alloc (.cells #[.string key] 9)) := ⟨hO.keep hbv', hbv'⟩
                      refine fh_valx 6 (d := 93) hn rfl (fun hk => x_bsS1 (lk_at hk (i := 92) rfl (fun _ => rfl) rfl)) hSv' ?_ rfl rfl (by kernel_rfl) rfl
                      have hKv := rdS_one (blk_new v2 #[.string key] 9)
                      replace hR1 := hR1.keep bb
                      replace hSv := hSv'
                      replace hbv := hbv'
                      clear hSv' hbv' bb hE hSE hbE hr1 hb1 hrt
                      generalize v2.heap.size = gk at hKv ⊢
                      generalize v2.alloc (.cells #[.string key] 9) = v3 at hKv hR1 hSv hbv ⊢
                      have hOv : OwnS w3.heap.size v3 A6 n6 c6 out := hSv.1
                      obtain ⟨A7, c7, u7, hr7, hO7, hb7, _⟩ := run_apS (P := Try.prog) (ty := 24) (n := p) (m := 1) (d := 1) v3 Try.underlying24 Try.underlying24 hi0 hz0 hz1 hz2 hR1 hKv rfl (by omega) hbv.size
                      have hb17 := hbv.trans hb7
                      have hS7 : (fun W => OwnS w3.heap.size W A6 n6 c6 out ∧ Below wq.heap.size wq W) u7 := ⟨hO.keep hb17, hb17⟩
                      refine fh_valx 7 (d := 94) hn rfl (fun hk => x_ap (lk_at hk (i := 91) rfl (fun _ => rfl) rfl) (lk_at hk (i := 93) rfl (fun _ => rfl) rfl) hr7) hS7 ?_ rfl rfl (by kernel_rfl) rfl
                      have hrd := hS7.1.rd.drop (m := p) (c := c6) (by rw [hS7.1.len]; exact hS7.1.cap.1)
                      rw [hAd] at hrd
                      obtain ⟨A8, c8, u8, hr8, hO8, hb8, _⟩ := run_apS (P := Try.prog) (ty := 24) (n := p + 1) (m := n6 - p) (d := c6 - p) u7 Try.underlying24 Try.underlying24 hi0 hz0 hz1 hz2 hO7 hrd (by rw [List.length_drop, hS7.1.len]) (by omega) hb17.size
                      have hb18 := hb17.trans hb8
                      have hS8 : (fun W => OwnS w3.heap.size W A6 n6 c6 out ∧ Below wq.heap.size wq W) u8 := ⟨hO.keep hb18, hb18⟩
                      refine fh_valx 11 (d := 98) hn rfl (fun hk => x_ap (lk_at hk (i := 94) rfl (fun _ => rfl) rfl) (lk_at hk (i := 97) rfl (fun _ => rfl) rfl) hr8) hS8 ?_ rfl rfl (by kernel_rfl) rfl
                      refine h_as 12 hn hS8 ?_
                      refine fh_end (by kernel_rfl) ?_
                      clear hn
                      subst ha
                      dsimp only [fr, cnd, Act.put, cond_true]
                      simp only [List.setIfInBounds_toArray, List.set_cons_zero, List.set_cons_succ]
                      have hO9 : OwnS w3.heap.size u8 A8 (p + 1 + (n6 - p)) c8 (out.take p ++ ([key] ++ out.drop p)) := by
                        rw [← List.append_assoc]
                        exact hO8.less (by have := hW.size; omega)
                      have hW9 : Below w3.heap.size w3 u8 := hW.trans (hb18.mono hW.size)
                      clear hAd hOv hS7 hS8 hO7 hO8 hr7 hr8 hrd hR1 hKv hbv hSv q1 q2 htk hi0 hz0 hz1 hz2 hb7 hb8 hb17 hb18 hlo hI hOs hAll hAf HFIN hP HR HR2 HN HN2 hS hO hW
                      go_wp2_with fail
                      refine ⟨?_, ?_⟩
                      · first
                        | exact ⟨k + 1, A8, p + 1 + (n6 - p), c8, _, by omega, by go_num, rfl, by omega, hO9, HI2, hW9⟩
                        | repeat apply Exists.intro
                          refine ⟨?_, rfl⟩
                          exact ⟨k + 1, A8, p + 1 + (n6 - p), c8, _, by omega, by go_num, rfl, by omega, hO9, HI2, hW9⟩
                      · simp [intOf]; omega
                    · have bb := b0 v1 (.cells #[.string key] 9)
                      have hKk := rdS_one (blk_new v1 #[.string key] 9)
                      have hgk : v1.heap.size ≠ g0 := by have := (hE.blk rfl).2; show v1.heap.size ≠ (⟨g0, 0, none⟩ : Addr).block; omega
                      replace hE := hE.keep bb
                      have hbE' := hbE.trans (bb.mono hbE.size)
                      have hSE' : (fun W => OwnS w3.heap.size W A6 n6 c6 out ∧ Below wq.heap.size wq W) (v1.alloc (.cells #[.string key] 9)) := ⟨hO.keep hbE', hbE'⟩
                      refine one_valx (d := 93) hn rfl (fun hk => x_bsS1 (lk_at hk (i := 92) rfl (fun _ => rfl) rfl)) hSE' ?_ rfl rfl rfl
                      replace hSE := hSE'
                      replace hbE := hbE'
                      clear hSE' hbE' bb
                      generalize v1.heap.size = gk at hKk hgk ⊢
                      generalize v1.alloc (.cells #[.string key] 9) = v2 at hKk hE hbE hSE ⊢
                      have hrt := (hSE.1.rd.take p)
                      obtain ⟨A1, c1, v3, hr1, hR1, hb1, hg1⟩ := run_apS (P := Try.prog) (ty := 24) (n := 0) (d := c6) v2 Try.underlying24 Try.underlying24 hi0 hz0 hz1 hz2 hE hrt htk (by omega) hbE.size
                      rw [List.nil_append, Nat.zero_add] at hR1
                      rw [Nat.zero_add] at hr1
                      have hbv := hbE.trans hb1
                      have hSv : (fun W => OwnS w3.heap.size W A6 n6 c6 out ∧ Below wq.heap.size wq W) v3 := ⟨hO.keep hbv, hbv⟩
                      refine fh_valx 4 (d := 91) hn rfl (fun hk => x_ap (lk_at hk (i := 87) rfl (fun _ => rfl) rfl) (lk_at hk (i := 90) rfl (fun _ => rfl) rfl) hr1) hSv ?_ rfl rfl (by kernel_rfl) rfl
                      have hKv := (hKk.grown hg1 (Nat.le_refl _) (fun y hy e => by
                        injection hy with hy
                        subst hy
                        injection e with e
                        exact hgk e)).more hg1.size
                      clear hE hSE hbE hr1 hb1 hrt hg1 hKk
                      have hOv : OwnS w3.heap.size v3 A6 n6 c6 out := hSv.1
                      obtain ⟨A7, c7, u7, hr7, hO7, hb7, _⟩ := run_apS (P := Try.prog) (ty := 24) (n := p) (m := 1) (d := 1) v3 Try.underlying24 Try.underlying24 hi0 hz0 hz1 hz2 hR1 hKv rfl (by omega) hbv.size
                      have hb17 := hbv.trans hb7
                      have hS7 : (fun W => OwnS w3.heap.size W A6 n6 c6 out ∧ Below wq.heap.size wq W) u7 := ⟨hO.keep hb17, hb17⟩
                      refine fh_valx 7 (d := 94) hn rfl (fun hk => x_ap (lk_at hk (i := 91) rfl (fun _ => rfl) rfl) (lk_at hk (i := 93) rfl (fun _ => rfl) rfl) hr7) hS7 ?_ rfl rfl (by kernel_rfl) rfl
                      have hrd := hS7.1.rd.drop (m := p) (c := c6) (by rw [hS7.1.len]; exact hS7.1.cap.1)
                      rw [hAd] at hrd
                      obtain ⟨A8, c8, u8, hr8, hO8, hb8, _⟩ := run_apS (P := Try.prog) (ty := 24) (n := p + 1) (m := n6 - p) (d := c6 - p) u7 Try.underlying24 Try.underlying24 hi0 hz0 hz1 hz2 hO7 hrd (by rw [List.length_drop, hS7.1.len]) (by omega) hb17.size
                      have hb18 := hb17.trans hb8
                      have hS8 : (fun W => OwnS w3.heap.size W A6 n6 c6 out ∧ Below wq.heap.size wq W) u8 := ⟨hO.keep hb18, hb18⟩
                      refine fh_valx 11 (d := 98) hn rfl (fun hk => x_ap (lk_at hk (i := 94) rfl (fun _ => rfl) rfl) (lk_at hk (i := 97) rfl (fun _ => rfl) rfl) hr8) hS8 ?_ rfl rfl (by kernel_rfl) rfl
                      refine h_as 12 hn hS8 ?_
                      refine fh_end (by kernel_rfl) ?_
                      clear hn
                      subst ha
                      dsimp only [fr, cnd, Act.put, cond_true]
                      simp only [List.setIfInBounds_toArray, List.set_cons_zero, List.set_cons_succ]
                      have hO9 : OwnS w3.heap.size u8 A8 (p + 1 + (n6 - p)) c8 (out.take p ++ ([key] ++ out.drop p)) := by
                        rw [← List.append_assoc]
                        exact hO8.less (by have := hW.size; omega)
                      have hW9 : Below w3.heap.size w3 u8 := hW.trans (hb18.mono hW.size)
                      clear hAd hOv hS7 hS8 hO7 hO8 hr7 hr8 hrd hR1 hKv hbv hSv q1 q2 htk hi0 hz0 hz1 hz2 hb7 hb8 hb17 hb18 hlo hI hOs hAll hAf HFIN hP HR HR2 HN HN2 hS hO hW
                      go_wp2_with fail
                      refine ⟨?_, ?_⟩
                      · first
                        | exact ⟨k + 1, A8, p + 1 + (n6 - p), c8, _, by omega, by go_num, rfl, by omega, hO9, HI2, hW9⟩
                        | repeat apply Exists.intro
                          refine ⟨?_, rfl⟩
                          exact ⟨k + 1, A8, p + 1 + (n6 - p), c8, _, by omega, by go_num, rfl, by omega, hO9, HI2, hW9⟩
                      · simp [intOf]; omega
                  · have ba := b0 wq.drew (.cells #[.string key] 9)
                    have hKa := rdS_one (blk_new wq.drew #[.string key] 9)
                    have hbA : Below wq.heap.size wq (wq.drew.alloc (.cells #[.string key] 9)) := bel_un29 ba
                    have hSA : (fun W => OwnS w3.heap.size W A6 n6 c6 out ∧ Below wq.heap.size wq W) (wq.drew.alloc (.cells #[.string key] 9)) := ⟨hO.keep hbA, hbA⟩
                    refine one_valx (d := 93) hn rfl (fun hk => x_bsS1 (lk_at hk (i := 92) rfl (fun _ => rfl) rfl)) hSA ?_ rfl rfl rfl
                    have hgl : wq.drew.heap.size < (wq.drew.alloc (.cells #[.string key] 9)).heap.size := (blk_new wq.drew #[.string key] 9).lt
                    generalize wq.drew.heap.size = gk at hKa hgl ⊢
                    generalize wq.drew.alloc (.cells #[.string key] 9) = v1 at hKa hbA hSA hgl ba ⊢
                    clear ba
                    have bb := b0 v1 (.cells #[] 9)
                    have hE := OwnS.lit v1 (base := wq.heap.size) #[] [] rfl rfl hbA.size (Nat.zero_le _)
                    have hbE := hbA.trans (bb.mono hbA.size)
                    have hSE : (fun W => OwnS w3.heap.size W A6 n6 c6 out ∧ Below wq.heap.size wq W) (v1.alloc (.cells #[] 9)) := ⟨hO.keep hbE, hbE⟩
                    refine fh_valx 0 (d := 87) hn rfl (fun hk => x_bsS0) hSE ?_ rfl rfl (by kernel_rfl) rfl
                    have hKk := (hKa.keep bb (Nat.le_refl _)).more bb.size
                    have hgk : gk ≠ v1.heap.size := by omega
                    clear bb hbA hSA hKa hgl
                    generalize v1.heap.size = g0 at hE hgk ⊢
                    generalize v1.alloc (.cells #[] 9) = v2 at hKk hE hbE hSE ⊢
                    have hrt := (hSE.1.rd.take p)
                    obtain ⟨A1, c1, v3, hr1, hR1, hb1, hg1⟩ := run_apS (P := Try.prog) (ty := 24) (n := 0) (d := c6) v2 Try.underlying24 Try.underlying24 hi0 hz0 hz1 hz2 hE hrt htk (by omega) hbE.size
                    rw [List.nil_append, Nat.zero_add] at hR1
                    rw [Nat.zero_add] at hr1
                    have hbv := hbE.trans hb1
                    have hSv : (fun W => OwnS w3.heap.size W A6 n6 c6 out ∧ Below wq.heap.size wq W) v3 := ⟨hO.keep hbv, hbv⟩
                    refine fh_valx 4 (d := 91) hn rfl (fun hk => x_ap (lk_at hk (i := 87) rfl (fun _ => rfl) rfl) (lk_at hk (i := 90) rfl (fun _ => rfl) rfl) hr1) hSv ?_ rfl rfl (by kernel_rfl) rfl
                    have hKv := (hKk.grown hg1 (Nat.le_refl _) (fun y hy e => by
                      injection hy with hy
                      subst hy
                      injection e with e
                      exact hgk e)).more hg1.size
                    clear hE hSE hbE hr1 hb1 hrt hg1 hKk
                    have hOv : OwnS w3.heap.size v3 A6 n6 c6 out := hSv.1
                    obtain ⟨A7, c7, u7, hr7, hO7, hb7, _⟩ := run_apS (P := Try.prog) (ty := 24) (n := p) (m := 1) (d := 1) v3 Try.underlying24 Try.underlying24 hi0 hz0 hz1 hz2 hR1 hKv rfl (by omega) hbv.size
                    have hb17 := hbv.trans hb7
                    have hS7 : (fun W => OwnS w3.heap.size W A6 n6 c6 out ∧ Below wq.heap.size wq W) u7 := ⟨hO.keep hb17, hb17⟩
                    refine fh_valx 7 (d := 94) hn rfl (fun hk => x_ap (lk_at hk (i := 91) rfl (fun _ => rfl) rfl) (lk_at hk (i := 93) rfl (fun _ => rfl) rfl) hr7) hS7 ?_ rfl rfl (by kernel_rfl) rfl
                    have hrd := hS7.1.rd.drop (m := p) (c := c6) (by rw [hS7.1.len]; exact hS7.1.cap.1)
                    rw [hAd] at hrd
                    obtain ⟨A8, c8, u8, hr8, hO8, hb8, _⟩ := run_apS (P := Try.prog) (ty := 24) (n := p + 1) (m := n6 - p) (d := c6 - p) u7 Try.underlying24 Try.underlying24 hi0 hz0 hz1 hz2 hO7 hrd (by rw [List.length_drop, hS7.1.len]) (by omega) hb17.size
                    have hb18 := hb17.trans hb8
                    have hS8 : (fun W => OwnS w3.heap.size W A6 n6 c6 out ∧ Below wq.heap.size wq W) u8 := ⟨hO.keep hb18, hb18⟩
                    refine fh_valx 11 (d := 98) hn rfl (fun hk => x_ap (lk_at hk (i := 94) rfl (fun _ => rfl) rfl) (lk_at hk (i := 97) rfl (fun _ => rfl) rfl) hr8) hS8 ?_ rfl rfl (by kernel_rfl) rfl
                    refine h_as 12 hn hS8 ?_
                    refine fh_end (by kernel_rfl) ?_
                    clear hn
                    subst ha
                    dsimp only [fr, cnd, Act.put, cond_true]
                    simp only [List.setIfInBounds_toArray, List.set_cons_zero, List.set_cons_succ]
                    have hO9 : OwnS w3.heap.size u8 A8 (p + 1 + (n6 - p)) c8 (out.take p ++ ([key] ++ out.drop p)) := by
                      rw [← List.append_assoc]
                      exact hO8.less (by have := hW.size; omega)
                    have hW9 : Below w3.heap.size w3 u8 := hW.trans (hb18.mono hW.size)
                    clear hAd hOv hS7 hS8 hO7 hO8 hr7 hr8 hrd hR1 hKv hbv hSv q1 q2 htk hi0 hz0 hz1 hz2 hb7 hb8 hb17 hb18 hlo hI hOs hAll hAf HFIN hP HR HR2 HN HN2 hS hO hW
                    go_wp2_with fail
                    refine ⟨?_, ?_⟩
                    · first
                      | exact ⟨k + 1, A8, p + 1 + (n6 - p), c8, _, by omega, by go_num, rfl, by omega, hO9, HI2, hW9⟩
                      | repeat apply Exists.intro
                        refine ⟨?_, rfl⟩
                        exact ⟨k + 1, A8, p + 1 + (n6 - p), c8, _, by omega, by go_num, rfl, by omega, hO9, HI2, hW9⟩
                    · simp [intOf]; omega
    · have i3 : ¬ (k : Int) < ((N : Nat) : Int) := by omega
      have hkN : k = N := by omega
      have hI2 := hI.out
      rw [hkN, ← hN0, List.take_length] at hI2
      obtain ⟨r1, r2⟩ := HFIN.out out hI2
      have hlen := hO.len
      have hrd := hO.rd
      have hBz : Below w.heap.size w wr := hB3.trans (hW.mono hB3.size)
      clear hI hI2 hO HFIN
      go_wp2_with fail
      go_ret
      exact ⟨⟨A6, n6, c6, out, rfl, hlen, hrd, r1, r2⟩, hBz⟩
end Go.Proofs.Ytokkmofcijfmiab
