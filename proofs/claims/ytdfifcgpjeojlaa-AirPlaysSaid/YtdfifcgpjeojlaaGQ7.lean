/-
  WHAT IS PROVED: the document's air: lists of parcels in memory; where the i-th stands; Send. Conditions: those typed in each theorem. · the document's air: Take, Double. Conditions: those typed in each theorem. · small sums over bytes, as the document's Turn does them; a byte with one bit turned. Conditions: those typed in each theorem.
-/
import Derived.Test.YtdfifcgpjeojlaaGQ6
import Derived.Test.YtdfifcgpjeojlaaGQ5
namespace Go.Proofs.Ytdfifcgpjeojlaa
open Go.RowKit

abbrev tRf : TypeId := 45
/-- The document's parcels, in memory. -/
structure RfM (W : World) (B : Option Addr) (m d : Nat) (ds : List Fl) : Prop where
  rd : RdX 4 W.heap.size W B (ds.map Fl.cells)
  len : ds.length = m
  cap : m ≤ d
  byt : ∀ y, y ∈ ds → FlIn W y
/-- Does a list of the document's hang on a block? -/
def RfO (B : Option Addr) (ds : List Fl) (k : Nat) : Prop := (ds ≠ [] ∧ ∃ a, B = some a ∧ a.block = k) ∨ ∃ y, y ∈ ds ∧ y.b ≠ [] ∧ ∃ a, y.A = some a ∧ a.block = k
/-- What a call of the document's leaves: nothing of old is touched, what is new hangs on the old, on what was handed in, or on new memory. -/
structure RfR (w w' : World) (B : Option Addr) (ds xs : List Fl) (B' : Option Addr) (m' d' : Nat) (ds' : List Fl) : Prop where
  m : RfM w' B' m' d' ds'
  bel : Below w.heap.size w w'
  new : ∀ k, RfO B' ds' k → RfO B ds k ∨ RfO none xs k ∨ w.heap.size ≤ k
theorem RfM.keep {W W' : World} {B : Option Addr} {m d : Nat} {ds : List Fl} (h : RfM W B m d ds) (hb : Below W.heap.size W W') : RfM W' B m d ds := ⟨(h.rd.keep hb (Nat.le_refl _)).more hb.size, h.len, h.cap, fun y hy => (h.byt y hy).keep hb⟩
theorem RfR.same {w w' : World} {B : Option Addr} {m d : Nat} {ds xs : List Fl} (h : RfM w B m d ds) (hb : Below w.heap.size w w') : RfR w w' B ds xs B m d ds := ⟨h.keep hb, hb, fun _ hk => .inl hk⟩
/-- What the document says of lists of parcels. -/
def Pc.ok (x : Pc) : Bool := nodeB x.f && nodeB x.t && !(x.f == x.t)
def sndP (l : List Pc) (x : Pc) : List Pc × Int := if x.ok = true then (if l.length < 400 then (l ++ [x], 0) else (l, 3)) else (l, 1)
def RfA (w : World) (B : Option Addr) (ds xs : List Fl) (r : List Pc × Int) (e : Ending) (w' : World) : Prop := ∃ (B' : Option Addr) (m' d' : Nat) (ds' : List Fl), e = .returned (.tuple #[.slice B' m' d', .int .i64 r.2]) ∧ RfR w w' B ds xs B' m' d' ds' ∧ ds'.map Fl.pc = r.1
set_option maxRecDepth 100000 in
set_option maxHeartbeats 4000000 in
theorem rfAt_any (i : Int) (B : Option Addr) (m d : Nat) (w : World) (h0 : 0 < m) (h1 : m ≤ 1000000) : Calls Try.prog 26 #[.slice B m d, .int .i64 i] w fun e w' => e = .returned (.int .i64 (modA i m : Nat)) ∧ w' = w := by
  have hpos : 0 ≤ i % 18446744073709551616 := Int.emod_nonneg _ (by decide)
  have hlt := modA_lt i h0
  have q1 : (convert 3 69 (.int .i64 i)).run Try.prog w = .ok (.int .u64 (((i % 18446744073709551616).toNat : Nat) : Int)) w := by
    rw [Int.toNat_of_nonneg hpos, ← IntKind.wrap_u64]
    go_simp
  have q2 : (convert 3 69 (.int .i64 (m : Int))).run Try.prog w = .ok (.int .u64 (m : Int)) w := by
    have : IntKind.u64.wrap (m : Int) = (m : Int) := by rw [IntKind.wrap_u64]; omega
    rw [← this]
    go_simp
    try rw [this]
  have q3 := rem_uu 6 9 w (i % 18446744073709551616).toNat m h0 (by omega)
  have q4 : (convert 69 3 (.int .u64 ((modA i m : Nat) : Int))).run Try.prog w = .ok (.int .i64 ((modA i m : Nat) : Int)) w := cv_ui w (by omega)
  go_enter Try.func26, Try.ntmps26
  go_upto_region 1 with fail
  refine wp_region_lit ?_
  refine fl_start ?_
  generalize ha : Act.mk _ _ = a0
  have hn : a0.tmps.size = 12 := by rw [← ha]; kernel_rfl
  have h0 : (fr a0 []).eval (.tmp 0) = .slice B m d := by rw [← ha]; kernel_rfl
  refine fl_know hn rfl h0 ?_
  clear h0
  have h1 : (fr a0 [(0, true, .slice B m d)]).eval (.tmp 1) = .int .i64 i := by rw [← ha]; kernel_rfl
  refine fl_know hn rfl h1 ?_
  clear h1
  refine g_mv hn ?_
  refine g_cv hn ?_ (hr := q1)
  refine g_mv hn ?_
  refine g_ln hn ?_
  refine g_cv hn ?_ (hr := q2)
  refine g_bn hn ?_ (hr := q3)
  refine g_cv hn ?_ (hr := q4)
  refine g_as hn ?_
  refine fl_end ?_
  clear hn q1 q2 q3 q4
  subst ha
  dsimp only [fr, cnd, Act.put, cond_true]
  simp only [List.setIfInBounds_toArray, List.set_cons_zero, List.set_cons_succ]
  go_wp2_with fail
  go_ret
  exact ⟨rfl, rfl⟩
theorem rfEl_info : ElI tRf (.agg #[.int .i64 0, .int .i64 0, .slice none 0 0, .bool false]) 4 48 := by unfold ElI; kernel_rfl
theorem rff0 (W : World) (b : Nat) : (Instr.fieldAt 45 (.pointer (some ⟨b, 0, none⟩)) 0).run Try.prog W = .ok (.pointer (some ⟨b, 0, none⟩)) W := by kernel_rfl
theorem rff1 (W : World) (b : Nat) : (Instr.fieldAt 45 (.pointer (some ⟨b, 0, none⟩)) 1).run Try.prog W = .ok (.pointer (some ⟨b, 1, none⟩)) W := by kernel_rfl
theorem rff2 (W : World) (b : Nat) : (Instr.fieldAt 45 (.pointer (some ⟨b, 0, none⟩)) 2).run Try.prog W = .ok (.pointer (some ⟨b, 2, none⟩)) W := by kernel_rfl
theorem ld_rf {W : World} {b : Nat} {x : Fl} {t : TypeId} (h : Blk W b x.cells t) : (Instr.loadAt 45 (.pointer (some ⟨b, 0, none⟩))).run Try.prog W = .ok (.agg x.cells) W := by
  have c0 := h.cell 0
  have c1 := h.cell 1
  have c2 := h.cell 2
  have c3 := h.cell 3
  clear h
  go_simp
theorem bsR0 (w : World) : (Instr.buildSlice 41 0 #[]).run Try.prog w = .ok (.slice (some ⟨w.heap.size, 0, none⟩) 0 0) (w.alloc (.cells #[] 45)) := by kernel_rfl
theorem x_bsR0 {w : World} {ρ : Operand → Value} {d : Option Tmp} {ty : TypeId} {p : String} {af : Array Edge} {gd : Option (Nat × Bool)} : (execOp ρ ⟨d, .buildSlice 41 0 #[], ty, p, af, gd⟩).run Try.prog w = .ok (.value (.slice (some ⟨w.heap.size, 0, none⟩) 0 0)) (w.alloc (.cells #[] 45)) := by
  unfold execOp
  dsimp only
  have e : (#[] : Array (Nat × Operand)).map (fun x => (x.fst, ρ x.snd)) = #[] := by simp
  have h := bsR0 w
  rw [← e] at h
  rw [Sem.run_bind]
  refine (congrArg (fun r => Result.andThen r _) h).trans ?_
  rfl
theorem own0R (w : World) (base : Nat) (h : base ≤ w.heap.size) : OwnX tRf 4 base (w.alloc (.cells #[] tRf)) (some ⟨w.heap.size, 0, none⟩) 0 0 (([] : List Fl).map Fl.cells) :=
  ⟨⟨rfl, .inr ⟨w.heap.size, 0, #[], rfl, h, blk_new w #[] tRf, Nat.le_refl _, Nat.zero_le _, rfl, rfl⟩⟩, fun _ h => by simp at h, rfl⟩
theorem bsR1 (x : Fl) (w : World) : (Instr.buildSlice 41 1 #[(0, .agg x.cells)]).run Try.prog w = .ok (.slice (some ⟨w.heap.size, 0, none⟩) 1 1) (w.alloc (.cells x.cells 45)) := by
  obtain ⟨f, t, A, n, c, u, b⟩ := x
  kernel_rfl
theorem x_bsR1 {w : World} {ρ : Operand → Value} {d : Option Tmp} {i : Nat} {x : Fl} {ty : TypeId} {p : String} {af : Array Edge} {gd : Option (Nat × Bool)} (h : ρ (.tmp i) = .agg x.cells) : (execOp ρ ⟨d, .buildSlice 41 1 #[(0, .tmp i)], ty, p, af, gd⟩).run Try.prog w = .ok (.value (.slice (some ⟨w.heap.size, 0, none⟩) 1 1)) (w.alloc (.cells x.cells 45)) := by
  unfold execOp
  simp only [List.map_toArray, List.map_cons, List.map_nil, h, Sem.run_bind, bsR1, Sem.run_pure, Result.andThen_ok]
theorem run_apNilR (w : World) (a : Addr) (n c d : Nat) (ty : TypeId) (h : n ≤ c) : (Builtin.append_ #[41, 41] ty #[.slice (some a) n c, .slice none 0 d]).run Try.prog w = .ok (.slice (some a) n c) w := by
  obtain ⟨i0, hi0, hz1, hs0, hb0⟩ := info_parts rfEl_info
  have ht : Try.prog.underlying 41 = some (.slice 45) := by kernel_rfl
  simp [Builtin.append_, run_underlying ht, sizeOf, typeInfo, hi0, Builtin.lenOf, Builtin.firstCells, h, storeCells]
/-- Parcels appended onto a row of the call's own. -/
theorem run_apR {base B n c m dd : Nat} (w : World) {a : Addr} {A2 : Option Addr} {ks xs : List Fl} {ty : TypeId} (hown : OwnX tRf 4 base w (some a) n c (ks.map Fl.cells)) (hr : RdX 4 B w A2 (xs.map Fl.cells)) (hm : xs.length = m) (hsz : n + m ≤ 1000000000) (hbase : base ≤ w.heap.size) :
    ∃ a' c' w2, (Builtin.append_ #[41, 41] ty #[.slice (some a) n c, .slice A2 m dd]).run Try.prog w = .ok (.slice (some a') (n + m) c') w2 ∧ OwnX tRf 4 base w2 (some a') (n + m) c' ((ks ++ xs).map Fl.cells) ∧ Below base w w2 ∧ ∀ k, k < w.heap.size → a.block ≠ k → w2.heap[k]? = w.heap[k]? := by
  cases A2 with
  | none =>
    have h0 : xs = [] := by
      cases xs with
      | nil => rfl
      | cons x r =>
        obtain ⟨ad, he, _⟩ := hr 0 x.cells rfl
        cases he
    subst h0
    have hm0 : m = 0 := hm.symm
    subst hm0
    exact ⟨a, c, w, run_apNilR w a n c dd ty hown.cap.1, by rw [List.append_nil]; exact hown, Below.refl _ _, fun _ _ _ => rfl⟩
  | some ad =>
    obtain ⟨j0, hj0, hj1, hj2, hj3⟩ := info_parts rfEl_info
    obtain ⟨A4, c4, w4, hr4, hO4, hb4, hA4, hst4, hwh4⟩ := run_apM (P := Try.prog) (ty := ty) (base := base) (ad := ad) (m := m) (d := dd) (xs := xs.map Fl.cells) w Try.underlying41 Try.underlying41 hj0 hj1 hj2 hj3 rfl (by decide) (by decide) hown (flEl_szd xs) (by rw [List.length_map]; exact hm) (fun y hy u hu => by
      obtain ⟨x, _, rfl⟩ := List.mem_map.1 hy
      have h3 := fl_oneC x
      rw [Array.all_eq_true'] at h3
      exact h3 u (by simpa using hu)) (fun k cs hk j v hv => by
      obtain ⟨ad2, e, _, h3⟩ := hr k cs hk
      injection e with e
      subst e
      exact h3 j v hv) hsz hbase (.inl (by simp))
    cases A4 with
    | none => exact absurd rfl hA4
    | some a' => exact ⟨a', c4, w4, hr4, by rw [List.map_append]; exact hO4, hb4, fun k hk hne => hst4 k hk (fun a2 e => by injection e with e; subst e; exact hne)⟩
theorem rdX_one {w : World} {g : Nat} {x : Fl} {t : TypeId} (h : Blk w g x.cells t) : RdX 4 w.heap.size w (some ⟨g, 0, none⟩) ([x].map Fl.cells) := fun k cs hk => by
  refine ⟨_, rfl, h.lt, ?_⟩
  exact blk_rdC h k cs hk
theorem RdX.far {z B : Nat} {W W' : World} {a0 : Addr} {l : List (Array Value)} (h : RdX z B W (some a0) l) (e : W'.heap[a0.block]? = W.heap[a0.block]?) (hs : B ≤ W'.heap.size) : RdX z W'.heap.size W' (some a0) l := fun k cs hk => by
  obtain ⟨ad, hA, hl, hc⟩ := h k cs hk
  injection hA with hA
  subst hA
  refine ⟨a0, rfl, by omega, fun j v hv => ?_⟩
  have h1 := hc j v hv
  unfold World.cell? at h1 ⊢
  rw [add_block] at h1 ⊢
  rw [e]
  exact h1
/-- What the document's Send looks at. -/
theorem bad_is (x : Fl) : ((((decide (x.f < 0) || decide (11 < x.f)) || decide (x.t < 0)) || decide (11 < x.t)) || (x.f == x.t)) = !x.pc.ok := by
  unfold Pc.ok nodeB
  by_cases h1 : x.f < 0
  · simp [h1, show ¬ (0 ≤ x.f) by omega]
  · by_cases h2 : 11 < x.f
    · simp [h2, show ¬ (x.f < 12) by omega]
    · by_cases h3 : x.t < 0
      · simp [h3, show ¬ (0 ≤ x.t) by omega]
      · by_cases h4 : 11 < x.t
        · simp [h4, show ¬ (x.t < 12) by omega]
        · simp [h1, h2, h3, h4, show 0 ≤ x.f by omega, show x.f < 12 by omega, show 0 ≤ x.t by omega, show x.t < 12 by omega]
set_option maxRecDepth 100000 in
set_option maxHeartbeats 4000000 in
theorem rfSend_bad (B : Option Addr) (m d : Nat) (ds : List Fl) (x : Fl) (w : World) (h : RfM w B m d ds) (hs : x.pc.ok = false) : Calls Try.prog 13 #[.slice B m d, .agg x.cells] w fun e w' => e = .returned (.tuple #[.slice B m d, .int .i64 1]) ∧ Below w.heap.size w w' := by
  have hX0 := blk_new w x.cells 45
  have hB := b0 w (.cells x.cells 45)
  have hzz : (w.alloc (.cells x.cells 45)).heap.size = w.heap.size + 1 := by simp
  have hM0 := h.keep (b0 w (.cells x.cells 45))
  go_enter Try.func13, Try.ntmps13
  go_upto_region 1 with fail
  generalize (w.alloc (.cells x.cells 45)) = W0 at hX0 hB hzz hM0 ⊢
  generalize hb : w.heap.size = b at hX0 hB hzz hM0 ⊢
  have f0 := rff0 W0 b
  have f1 := rff1 W0 b
  have l0 := ld_in (hX0.cell 0)
  have l1 := ld_in (hX0.cell 1)
  refine wp_region_lit ?_
  refine fl_start ?_
  generalize ha : Act.mk _ _ = a0
  have hn : a0.tmps.size = 42 := by rw [← ha]; kernel_rfl
  have h3 : (fr a0 []).eval (.tmp 3) = .pointer (some ⟨b, 0, none⟩) := by rw [← ha]; kernel_rfl
  refine fl_know hn rfl h3 ?_
  clear h3
  refine g_fd hn ?_
  refine g_ld hn ?_
  refine g_lss hn ?_
  refine g_mv hn ?_
  refine g_fd hn ?_
  refine g_ld hn ?_
  refine g_gtr hn ?_
  refine g_or hn ?_
  refine g_mv hn ?_
  refine g_fd hn ?_
  refine g_ld hn ?_
  refine g_lss hn ?_
  refine g_or hn ?_
  refine g_mv hn ?_
  refine g_fd hn ?_
  refine g_ld hn ?_
  refine g_gtr hn ?_
  refine g_or hn ?_
  refine g_mv hn ?_
  refine g_fd hn ?_
  refine g_ld hn ?_
  refine g_fd hn ?_
  refine g_ld hn ?_
  refine g_eql2 hn ?_
  refine g_or hn ?_
  refine fl_end ?_
  clear hn f0 f1 l0 l1
  subst ha
  dsimp only [fr, cnd, Act.put, cond_true]
  simp only [List.setIfInBounds_toArray, List.set_cons_zero, List.set_cons_succ]
  have hE := bad_is x
  rw [hs] at hE
  simp only [hE, Bool.not_false]
  go_wp2_with fail
  go_ret2
  exact ⟨rfl, by first | exact hB | (rw [hb]; exact hB)⟩
set_option maxRecDepth 100000 in
set_option maxHeartbeats 4000000 in
theorem rfSend_full (B : Option Addr) (m d : Nat) (ds : List Fl) (x : Fl) (w : World) (h : RfM w B m d ds) (hs : x.pc.ok = true) (h4 : 400 ≤ m) : Calls Try.prog 13 #[.slice B m d, .agg x.cells] w fun e w' => e = .returned (.tuple #[.slice B m d, .int .i64 3]) ∧ Below w.heap.size w w' := by
  have hX0 := blk_new w x.cells 45
  have hB := b0 w (.cells x.cells 45)
  have hzz : (w.alloc (.cells x.cells 45)).heap.size = w.heap.size + 1 := by simp
  have hM0 := h.keep (b0 w (.cells x.cells 45))
  go_enter Try.func13, Try.ntmps13
  go_upto_region 1 with fail
  generalize (w.alloc (.cells x.cells 45)) = W0 at hX0 hB hzz hM0 ⊢
  generalize hb : w.heap.size = b at hX0 hB hzz hM0 ⊢
  have f0 := rff0 W0 b
  have f1 := rff1 W0 b
  have l0 := ld_in (hX0.cell 0)
  have l1 := ld_in (hX0.cell 1)
  refine wp_region_lit ?_
  refine fl_start ?_
  generalize ha : Act.mk _ _ = a0
  have hn : a0.tmps.size = 42 := by rw [← ha]; kernel_rfl
  have h3 : (fr a0 []).eval (.tmp 3) = .pointer (some ⟨b, 0, none⟩) := by rw [← ha]; kernel_rfl
  refine fl_know hn rfl h3 ?_
  clear h3
  refine g_fd hn ?_
  refine g_ld hn ?_
  refine g_lss hn ?_
  refine g_mv hn ?_
  refine g_fd hn ?_
  refine g_ld hn ?_
  refine g_gtr hn ?_
  refine g_or hn ?_
  refine g_mv hn ?_
  refine g_fd hn ?_
  refine g_ld hn ?_
  refine g_lss hn ?_
  refine g_or hn ?_
  refine g_mv hn ?_
  refine g_fd hn ?_
  refine g_ld hn ?_
  refine g_gtr hn ?_
  refine g_or hn ?_
  refine g_mv hn ?_
  refine g_fd hn ?_
  refine g_ld hn ?_
  refine g_fd hn ?_
  refine g_ld hn ?_
  refine g_eql2 hn ?_
  refine g_or hn ?_
  refine fl_end ?_
  clear hn f0 f1 l0 l1
  subst ha
  dsimp only [fr, cnd, Act.put, cond_true]
  simp only [List.setIfInBounds_toArray, List.set_cons_zero, List.set_cons_succ]
  have hE := bad_is x
  rw [hs] at hE
  simp only [hE, Bool.not_true]
  have i4 : (400 : Int) ≤ (m : Int) := by omega
  go_wp2_with fail
  go_ret2
  exact ⟨rfl, by first | exact hB | (rw [hb]; exact hB)⟩
theorem rfSend_fin {B : Option Addr} {m d : Nat} {ds : List Fl} {x : Fl} {w W0 w4 : World} {a4 : Addr} {c4 b : Nat} (h : RfM w B m d ds) (hx : FlIn w x) (hm : m < 400) (hb : w.heap.size = b) (hzz : W0.heap.size = b + 1) (hB : Below b w W0) (hO4 : OwnX tRf 4 W0.heap.size w4 (some a4) (m + 1) c4 ((ds ++ [x]).map Fl.cells)) (hb5 : Below W0.heap.size W0 w4) : ∃ (A' : Option Addr) (c' m' : Nat), Ending.returned (.tuple #[.slice (some a4) (m + 1) c4, .int .i64 0]) = .returned (.tuple #[.slice A' m' c', .int .i64 0]) ∧ RfR w w4 B ds [x] A' m' c' (ds ++ [x]) := by
  have hBw : Below w.heap.size w w4 := (by rw [hb]; exact hB : Below w.heap.size w W0).trans (hb5.mono (by omega))
  refine ⟨_, _, _, rfl, ⟨⟨hO4.rd, by rw [List.length_append, h.len]; rfl, hO4.cap.1, fun y hy => ?_⟩, hBw, fun k hk => ?_⟩⟩
  · rcases List.mem_append.1 hy with hy | hy
    · exact (h.byt y hy).keep hBw
    · rw [List.mem_singleton] at hy
      subst hy
      exact hx.keep hBw
  · rcases hk with ⟨_, a, ha, rfl⟩ | ⟨y, hy, hne, a, ha, rfl⟩
    · injection ha with ha
      subst ha
      have := (hO4.blk rfl).1
      exact .inr (.inr (by omega))
    · rcases List.mem_append.1 hy with hy | hy
      · exact .inl (.inr ⟨y, hy, hne, a, ha, rfl⟩)
      · exact .inr (.inl (.inr ⟨y, hy, hne, a, ha, rfl⟩))
set_option maxRecDepth 100000 in
set_option maxHeartbeats 4000000 in
theorem rfSend_good (B : Option Addr) (m d : Nat) (ds : List Fl) (x : Fl) (w : World) (h : RfM w B m d ds) (hx : FlIn w x) (hs : x.pc.ok = true) (hm : m < 400) : Calls Try.prog 13 #[.slice B m d, .agg x.cells] w fun e w' => ∃ (A' : Option Addr) (c' m' : Nat), e = .returned (.tuple #[.slice A' m' c', .int .i64 0]) ∧ RfR w w' B ds [x] A' m' c' (ds ++ [x]) := by
  have hX0 := blk_new w x.cells 45
  have hB := b0 w (.cells x.cells 45)
  have hzz : (w.alloc (.cells x.cells 45)).heap.size = w.heap.size + 1 := by simp
  have hM0 := h.keep (b0 w (.cells x.cells 45))
  go_enter Try.func13, Try.ntmps13
  go_upto_region 1 with fail
  generalize (w.alloc (.cells x.cells 45)) = W0 at hX0 hB hzz hM0 ⊢
  generalize hb : w.heap.size = b at hX0 hB hzz hM0 ⊢
  have f0 := rff0 W0 b
  have f1 := rff1 W0 b
  have l0 := ld_in (hX0.cell 0)
  have l1 := ld_in (hX0.cell 1)
  refine wp_region_lit ?_
  refine fl_start ?_
  generalize ha : Act.mk _ _ = a0
  have hn : a0.tmps.size = 42 := by rw [← ha]; kernel_rfl
  have h3 : (fr a0 []).eval (.tmp 3) = .pointer (some ⟨b, 0, none⟩) := by rw [← ha]; kernel_rfl
  refine fl_know hn rfl h3 ?_
  clear h3
  refine g_fd hn ?_
  refine g_ld hn ?_
  refine g_lss hn ?_
  refine g_mv hn ?_
  refine g_fd hn ?_
  refine g_ld hn ?_
  refine g_gtr hn ?_
  refine g_or hn ?_
  refine g_mv hn ?_
  refine g_fd hn ?_
  refine g_ld hn ?_
  refine g_lss hn ?_
  refine g_or hn ?_
  refine g_mv hn ?_
  refine g_fd hn ?_
  refine g_ld hn ?_
  refine g_gtr hn ?_
  refine g_or hn ?_
  refine g_mv hn ?_
  refine g_fd hn ?_
  refine g_ld hn ?_
  refine g_fd hn ?_
  refine g_ld hn ?_
  refine g_eql2 hn ?_
  refine g_or hn ?_
  refine fl_end ?_
  clear hn f0 f1 l0 l1
  subst ha
  dsimp only [fr, cnd, Act.put, cond_true]
  simp only [List.setIfInBounds_toArray, List.set_cons_zero, List.set_cons_succ]
  have hE := bad_is x
  rw [hs] at hE
  simp only [hE, Bool.not_true]
  have i4 : ¬ (400 : Int) ≤ (m : Int) := by omega
  have l3 : ∀ W, (fun W => Blk W b x.cells tRf) W → _ := fun W h => ld_rf h
  go_upto_region 5 with fail
  refine fh_start (S := (fun W => Blk W b x.cells tRf)) (by kernel_rfl) (hX0) (fun hS => ?_)
  generalize ha : Act.mk _ _ = a0
  have hn : a0.tmps.size = 42 := by rw [← ha]; kernel_rfl
  have h0 : (fr a0 []).eval (.tmp 0) = .slice B m d := by rw [← ha]; kernel_rfl
  refine fh_know hn rfl h0 ?_
  clear h0
  have h3 : (fr a0 [(0, true, .slice B m d)]).eval (.tmp 3) = .pointer (some ⟨b, 0, none⟩) := by rw [← ha]; kernel_rfl
  refine fh_know hn rfl h3 ?_
  clear h3
  refine h_mv 1 hn hS ?_
  refine h_ld 3 hn hS ?_
  refine fh_two (i := 0) (j := 4) (by kernel_rfl) ?_ ?_
  · have ba := b0 W0.drew (.cells #[] 45)
    have hE1 := own0R W0.drew W0.heap.size (Nat.le_refl _)
    have hbE : Below W0.heap.size W0 (W0.drew.alloc (.cells #[] 45)) := bel_un29 ba
    have hSE : (fun W => Blk W b x.cells tRf) (W0.drew.alloc (.cells #[] 45)) := hX0.keep hbE
    refine one_valx (d := 36) hn rfl (fun hk => x_bsR0) hSE ?_ rfl rfl rfl
    have hg0 : W0.drew.heap.size = W0.heap.size := rfl
    generalize W0.drew.alloc (.cells #[] 45) = v1 at hE1 hbE hSE ba ⊢
    rw [hg0] at hE1 ⊢
    clear ba
    refine fh_two (i := 2) (j := 4) (by kernel_rfl) ?_ ?_
    · obtain ⟨a1, c1, v2, hr1, hR1, hb1, hst1⟩ := run_apR (ty := 41) (dd := d) v1 hE1 ((hM0.keep hbE).rd) h.len (by omega) hbE.size
      rw [Nat.zero_add] at hr1 hR1
      rw [List.nil_append] at hR1
      have hbv := hbE.trans hb1
      have hSv : (fun W => Blk W b x.cells tRf) v2 := hX0.keep hbv
      refine one_valx (d := 38) hn rfl (fun hk => x_ap (lk_at hk (i := 36) rfl (fun _ => rfl) rfl) (lk_at hk (i := 37) rfl (fun _ => rfl) rfl) hr1) hSv ?_ rfl rfl rfl
      have bb := b0 v2 (.cells x.cells 45)
      have hbv' := hbv.trans (bb.mono hbv.size)
      have hSv' : (fun W => Blk W b x.cells tRf) (v2.alloc (.cells x.cells 45)) := hX0.keep hbv'
      refine fh_valx 4 (d := 40) hn rfl (fun hk => x_bsR1 (lk_at hk (i := 39) rfl (fun _ => rfl) rfl)) hSv' ?_ rfl rfl (by kernel_rfl) rfl
      have hKv := rdX_one (blk_new v2 x.cells 45)
      replace hR1 := hR1.keep bb
      clear hSv' bb hE1 hSE hbE hr1 hb1 hst1
      generalize v2.heap.size = gk at hKv ⊢
      generalize v2.alloc (.cells x.cells 45) = v3 at hKv hR1 hbv' ⊢
      obtain ⟨a4, c4, w4, hr4, hO4, hb4, -⟩ := run_apR (ty := 41) (dd := 1) (m := 1) v3 hR1 hKv rfl (by omega) hbv'.size
      have hb5 := hbv'.trans hb4
      have hS4 : (fun W => Blk W b x.cells tRf) w4 := hX0.keep hb5
      refine fh_valx 5 (d := 41) hn rfl (fun hk => x_ap (lk_at hk (i := 38) rfl (fun _ => rfl) rfl) (lk_at hk (i := 40) rfl (fun _ => rfl) rfl) hr4) hS4 ?_ rfl rfl (by kernel_rfl) rfl
      refine h_as 6 hn hS4 ?_
      refine h_ac 7 hn hS4 ?_
      refine fh_end (by kernel_rfl) ?_
      clear hn
      subst ha
      dsimp only [fr, cnd, Act.put, cond_true]
      simp only [List.setIfInBounds_toArray, List.set_cons_zero, List.set_cons_succ]
      go_wp2_with fail
      go_ret2
      exact rfSend_fin h hx hm hb hzz hB hO4 hb5
    · have bb := b0 v1 (.cells x.cells 45)
      have hKk := rdX_one (blk_new v1 x.cells 45)
      have hgl := (blk_new v1 x.cells 45).lt
      have hgk : v1.heap.size ≠ W0.heap.size := by have := (hE1.blk rfl).2; show v1.heap.size ≠ (⟨W0.heap.size, 0, none⟩ : Addr).block; omega
      replace hE1 := hE1.keep bb
      have hbE' := hbE.trans (bb.mono hbE.size)
      have hSE' : (fun W => Blk W b x.cells tRf) (v1.alloc (.cells x.cells 45)) := hX0.keep hbE'
      refine one_valx (d := 40) hn rfl (fun hk => x_bsR1 (lk_at hk (i := 39) rfl (fun _ => rfl) rfl)) hSE' ?_ rfl rfl rfl
      replace hSE := hSE'
      replace hbE := hbE'
      clear hSE' hbE' bb
      generalize v1.heap.size = gk at hKk hgk hgl ⊢
      generalize v1.alloc (.cells x.cells 45) = v2 at hKk hE1 hbE hSE hgl ⊢
      obtain ⟨a1, c1, v3, hr1, hR1, hb1, hst1⟩ := run_apR (ty := 41) (dd := d) v2 hE1 ((hM0.keep hbE).rd) h.len (by omega) hbE.size
      rw [Nat.zero_add] at hr1 hR1
      rw [List.nil_append] at hR1
      have hbv := hbE.trans hb1
      have hSv : (fun W => Blk W b x.cells tRf) v3 := hX0.keep hbv
      refine fh_valx 2 (d := 38) hn rfl (fun hk => x_ap (lk_at hk (i := 36) rfl (fun _ => rfl) rfl) (lk_at hk (i := 37) rfl (fun _ => rfl) rfl) hr1) hSv ?_ rfl rfl (by kernel_rfl) rfl
      have hKv := hKk.far (hst1 gk hgl (fun e => hgk e.symm)) hb1.size
      clear hE1 hSE hbE hr1 hb1 hst1 hKk
      obtain ⟨a4, c4, w4, hr4, hO4, hb4, -⟩ := run_apR (ty := 41) (dd := 1) (m := 1) v3 hR1 hKv rfl (by omega) hbv.size
      have hb5 := hbv.trans hb4
      have hS4 : (fun W => Blk W b x.cells tRf) w4 := hX0.keep hb5
      refine fh_valx 5 (d := 41) hn rfl (fun hk => x_ap (lk_at hk (i := 38) rfl (fun _ => rfl) rfl) (lk_at hk (i := 40) rfl (fun _ => rfl) rfl) hr4) hS4 ?_ rfl rfl (by kernel_rfl) rfl
      refine h_as 6 hn hS4 ?_
      refine h_ac 7 hn hS4 ?_
      refine fh_end (by kernel_rfl) ?_
      clear hn
      subst ha
      dsimp only [fr, cnd, Act.put, cond_true]
      simp only [List.setIfInBounds_toArray, List.set_cons_zero, List.set_cons_succ]
      go_wp2_with fail
      go_ret2
      exact rfSend_fin h hx hm hb hzz hB hO4 hb5
  · have ba := b0 W0.drew (.cells x.cells 45)
    have hKa := rdX_one (blk_new W0.drew x.cells 45)
    have hbA : Below W0.heap.size W0 (W0.drew.alloc (.cells x.cells 45)) := bel_un29 ba
    have hSA : (fun W => Blk W b x.cells tRf) (W0.drew.alloc (.cells x.cells 45)) := hX0.keep hbA
    refine one_valx (d := 40) hn rfl (fun hk => x_bsR1 (lk_at hk (i := 39) rfl (fun _ => rfl) rfl)) hSA ?_ rfl rfl rfl
    have hgl0 : W0.drew.heap.size < (W0.drew.alloc (.cells x.cells 45)).heap.size := (blk_new W0.drew x.cells 45).lt
    generalize W0.drew.heap.size = gk at hKa hgl0 ⊢
    generalize W0.drew.alloc (.cells x.cells 45) = v1 at hKa hbA hSA hgl0 ba ⊢
    clear ba
    have bb := b0 v1 (.cells #[] 45)
    have hE1 := own0R v1 W0.heap.size hbA.size
    have hbE := hbA.trans (bb.mono hbA.size)
    have hSE : (fun W => Blk W b x.cells tRf) (v1.alloc (.cells #[] 45)) := hX0.keep hbE
    refine fh_valx 0 (d := 36) hn rfl (fun hk => x_bsR0) hSE ?_ rfl rfl (by kernel_rfl) rfl
    have hKk := (hKa.keep bb (Nat.le_refl _)).more bb.size
    have hgk : gk ≠ v1.heap.size := by omega
    have hgl : gk < (v1.alloc (.cells #[] 45)).heap.size := Nat.lt_of_lt_of_le hgl0 bb.size
    clear bb hbA hSA hKa hgl0
    generalize v1.heap.size = g0 at hE1 hgk ⊢
    generalize v1.alloc (.cells #[] 45) = v2 at hKk hE1 hbE hSE hgl ⊢
    obtain ⟨a1, c1, v3, hr1, hR1, hb1, hst1⟩ := run_apR (ty := 41) (dd := d) v2 hE1 ((hM0.keep hbE).rd) h.len (by omega) hbE.size
    rw [Nat.zero_add] at hr1 hR1
    rw [List.nil_append] at hR1
    have hbv := hbE.trans hb1
    have hSv : (fun W => Blk W b x.cells tRf) v3 := hX0.keep hbv
    refine fh_valx 2 (d := 38) hn rfl (fun hk => x_ap (lk_at hk (i := 36) rfl (fun _ => rfl) rfl) (lk_at hk (i := 37) rfl (fun _ => rfl) rfl) hr1) hSv ?_ rfl rfl (by kernel_rfl) rfl
    have hKv := hKk.far (hst1 gk hgl (fun e => hgk e.symm)) hb1.size
    clear hE1 hSE hbE hr1 hb1 hst1 hKk
    obtain ⟨a4, c4, w4, hr4, hO4, hb4, -⟩ := run_apR (ty := 41) (dd := 1) (m := 1) v3 hR1 hKv rfl (by omega) hbv.size
    have hb5 := hbv.trans hb4
    have hS4 : (fun W => Blk W b x.cells tRf) w4 := hX0.keep hb5
    refine fh_valx 5 (d := 41) hn rfl (fun hk => x_ap (lk_at hk (i := 38) rfl (fun _ => rfl) rfl) (lk_at hk (i := 40) rfl (fun _ => rfl) rfl) hr4) hS4 ?_ rfl rfl (by kernel_rfl) rfl
    refine h_as 6 hn hS4 ?_
    refine h_ac 7 hn hS4 ?_
    refine fh_end (by kernel_rfl) ?_
    clear hn
    subst ha
    dsimp only [fr, cnd, Act.put, cond_true]
    simp only [List.setIfInBounds_toArray, List.set_cons_zero, List.set_cons_succ]
    go_wp2_with fail
    go_ret2
    exact rfSend_fin h hx hm hb hzz hB hO4 hb5
/-- The document's Send. -/
theorem rfSend_any (B : Option Addr) (m d : Nat) (ds : List Fl) (x : Fl) (w : World) (h : RfM w B m d ds) (hx : FlIn w x) : Calls Try.prog 13 #[.slice B m d, .agg x.cells] w (RfA w B ds [x] (sndP (ds.map Fl.pc) x.pc)) := by
  have hl : (ds.map Fl.pc).length = m := by rw [List.length_map, h.len]
  cases hs : x.pc.ok with
  | false =>
    refine (rfSend_bad B m d ds x w h hs).mono fun e w2 ⟨he, hb⟩ => ?_
    have e1 : sndP (ds.map Fl.pc) x.pc = (ds.map Fl.pc, 1) := by unfold sndP; rw [hs]; rfl
    rw [e1]
    exact ⟨B, m, d, ds, he, RfR.same h hb, rfl⟩
  | true =>
    by_cases h4 : m < 400
    · refine (rfSend_good B m d ds x w h hx hs h4).mono fun e w2 ⟨A', c', m', he, hR⟩ => ?_
      have e1 : sndP (ds.map Fl.pc) x.pc = (ds.map Fl.pc ++ [x.pc], 0) := by unfold sndP; rw [if_pos hs, if_pos (by omega)]
      rw [e1]
      exact ⟨A', m', c', _, he, hR, by rw [List.map_append]; rfl⟩
    · refine (rfSend_full B m d ds x w h hs (by omega)).mono fun e w2 ⟨he, hb⟩ => ?_
      have e1 : sndP (ds.map Fl.pc) x.pc = (ds.map Fl.pc, 3) := by unfold sndP; rw [if_pos hs, if_neg (by omega)]
      rw [e1]
      exact ⟨B, m, d, ds, he, RfR.same h hb, rfl⟩
end Go.Proofs.Ytdfifcgpjeojlaa

namespace Go.Proofs.Ytdfifcgpjeojlaa
open Go.RowKit

theorem en_spinney_spinneyref22_at : ∀ args w, (callFunc 26 args).run Try.prog w = .ok (.enter 26 args) w := enters_of Try.func26 (by kernel_rfl) rfl
theorem en_spinney_spinneyref22_Send : ∀ args w, (callFunc 13 args).run Try.prog w = .ok (.enter 13 args) w := enters_of Try.func13 (by kernel_rfl) rfl

theorem results_tct {P : Program} {fn : Func} {t1 p u : Tmp} {ty : TypeId} (h : fn.results = #[.tmp t1, .cell p ty, .tmp u]) (tmps : Array Value) (w : World) (g : Nat) (t : TypeId) (cs : Array Value) (fr : Nat × Nat) (d : TypeDesc)
    (hp : tmps.getD p undef = .pointer (some ⟨g, 0, none⟩)) (hg : w.heap[g]? = some (.cells cs t fr))
    (hu : P.underlying ty = some d) (hd : (match d with | .struct _ | .array _ _ => true | _ => false) = true) (hi : (P.info? ty).map (·.size) = some cs.size) :
    (results fn tmps).run P w = .ok (.tuple #[tmps.getD t1 undef, .agg cs, tmps.getD u undef]) w := by
  have hp' : tmps[p]?.getD undef = .pointer (some ⟨g, 0, none⟩) := by simpa using hp
  simp [results, h, hp', asAddr, run_loadVar_row w g t ty cs fr d hg hu hd hi]
theorem rfix (W : World) (ad : Addr) (n c k : Nat) (h : k < n) : (Instr.indexAt 41 (.slice (some ad) n c) (.int .i64 (k : Int))).run Try.prog W = .ok (.pointer (some (ad.add (k * 4)))) W := by
  have i1 : (0 : Int) ≤ (k : Int) := by omega
  have i2 : (k : Int) < (n : Int) := by omega
  go_simp
theorem rfld {W : World} {ad : Addr} {k : Nat} {x : Fl} (hc : ∀ j v, x.cells[j]? = some v → W.cell? (ad.add (k * 4 + j)) = some v) : (Instr.loadAt 45 (.pointer (some (ad.add (k * 4))))).run Try.prog W = .ok (.agg x.cells) W := by
  have c0 := hc 0 (.int .i64 x.f) rfl
  rw [Nat.add_zero] at c0
  have c1 := hc 1 (.int .i64 x.t) rfl
  have c2 := hc 2 (.slice x.A x.n x.c) rfl
  have c3 := hc 3 (.bool x.u) rfl
  rw [addX_at] at c1 c2 c3
  clear hc
  go_simp
theorem RfM.at {W : World} {B : Option Addr} {m d : Nat} {ds : List Fl} (h : RfM W B m d ds) {k : Nat} (hk : k < m) : ∃ ad x, B = some ad ∧ ds[k]? = some x ∧ ad.block < W.heap.size ∧ ∀ j v, x.cells[j]? = some v → W.cell? (ad.add (k * 4 + j)) = some v := by
  obtain ⟨x, hx⟩ : ∃ x, ds[k]? = some x := ⟨_, List.getElem?_eq_getElem (show k < ds.length by rw [h.len]; exact hk)⟩
  obtain ⟨ad, hA, hl, hc⟩ := h.rd k x.cells (by rw [List.getElem?_map, hx]; rfl)
  exact ⟨ad, _, hA, hx, hl, hc⟩
theorem rsl_u : Try.prog.underlying 41 = some (.slice (Try.prog.elem 41)) := by kernel_rfl
theorem rsl_z (W : World) : (sizeOf (Try.prog.elem 41)).run Try.prog W = .ok 4 W := by kernel_rfl
theorem rsl_lo (ad : Addr) (n c k : Nat) (h : k ≤ n) (hc : n ≤ c) : ∃ a', (∀ W : World, (Instr.sliceAt 41 (.slice (some ad) n c) (some (.int .i64 (k : Int))) none none).run Try.prog W = .ok (.slice (some a') (n - k) (c - k)) W) ∧ (k < n → a' = ad.add (k * 4)) := by
  by_cases e : c = k
  · refine ⟨ad, fun W => ?_, fun h2 => by omega⟩
    rw [run_sliceAt_slice W _ _ _ _ _ rsl_u, run_slice_l W _ _ _ _ rsl_u _ _ (by omega) (by omega), rsl_z]
    show Result.ok (sliced _ _ _ _ _) W = _
    unfold sliced
    rw [Int.toNat_natCast, if_pos e]
  · refine ⟨ad.add (k * 4), fun W => ?_, fun _ => rfl⟩
    rw [run_sliceAt_slice W _ _ _ _ _ rsl_u, run_slice_l W _ _ _ _ rsl_u _ _ (by omega) (by omega), rsl_z]
    show Result.ok (sliced _ _ _ _ _) W = _
    unfold sliced
    rw [Int.toNat_natCast, if_neg e, Option.map_some]
theorem add_zeroA (ad : Addr) : ad.add 0 = ad := by
  unfold Addr.add
  split
  · rfl
  · next h => exact absurd rfl h
theorem rsl_hi (W : World) (ad : Addr) (n c k : Nat) (h : k ≤ n) (hc : n ≤ c) : (Instr.sliceAt 41 (.slice (some ad) n c) none (some (.int .i64 (k : Int))) none).run Try.prog W = .ok (.slice (some ad) k c) W := by
  rw [run_sliceAt_slice W _ _ _ _ _ rsl_u, run_slice_h W _ _ _ _ rsl_u _ _ (by omega) (by omega), rsl_z]
  show Result.ok (sliced _ _ _ _ _) W = _
  unfold sliced
  rw [Int.toNat_natCast, Option.map_some, Nat.zero_mul, add_zeroA, ite_self, Nat.sub_zero, Nat.sub_zero]
theorem RdX.hiR {z B : Nat} {W : World} {A : Option Addr} {l : List Fl} (h : RdX z B W A (l.map Fl.cells)) (k : Nat) : RdX z B W A ((l.take k).map Fl.cells) := fun j x hx => h j x (by
  rw [List.getElem?_map, List.getElem?_take] at hx
  rw [List.getElem?_map]
  split at hx
  · exact hx
  · cases hx)
theorem RdX.loR {B : Nat} {W : World} {ad : Addr} {l : List Fl} (h : RdX 4 B W (some ad) (l.map Fl.cells)) (k : Nat) {a' : Addr} (ha : k < l.length → a' = ad.add (k * 4)) : RdX 4 B W (some a') ((l.drop k).map Fl.cells) := fun j x hx => by
  rw [List.getElem?_map, List.getElem?_drop] at hx
  have hlt : k + j < l.length := by
    cases hj : l[k + j]? with
    | none => rw [hj] at hx; cases hx
    | some y => exact (List.getElem?_eq_some_iff.1 hj).1
  obtain ⟨ad2, e, hl, hc⟩ := h (k + j) x (by rw [List.getElem?_map]; exact hx)
  injection e with e
  subst e
  rw [ha (by omega)]
  refine ⟨_, rfl, by rw [add_block]; exact hl, fun i v hv => ?_⟩
  rw [add_add', show k * 4 + (j * 4 + i) = (k + j) * 4 + i by omega]
  exact hc i v hv
theorem bdR0 (W : World) : (Instr.build 45 #[]).run Try.prog W = .ok (.agg zFl) W := by kernel_rfl
theorem alRf (w : World) : (Instr.alloc 45 true (.tuple #[])).run Try.prog w = .ok (.pointer (some ⟨w.heap.size, 0, none⟩)) (w.alloc (.cells zFl 45)) := by kernel_rfl
theorem x_alRf {w : World} {ρ : Operand → Value} {d : Option Tmp} {ty : TypeId} {p : String} {af : Array Edge} {gd : Option (Nat × Bool)} : (execOp ρ ⟨d, .alloc 45, ty, p, af, gd⟩).run Try.prog w = .ok (.value (.pointer (some ⟨w.heap.size, 0, none⟩))) (w.alloc (.cells zFl 45)) := by
  unfold execOp
  dsimp only
  rw [Sem.run_bind, alRf]
  rfl
theorem st_rowR {w : World} {b : Nat} {cs : Array Value} {x : Fl} (hX : Blk w b cs 45) (hs : cs.size = 4) : (Instr.storeAt 45 (.pointer (some ⟨b, 0, none⟩)) (.agg x.cells)).run Try.prog w = .ok () (w.setRow b x.cells) := by
  have hi : (Try.prog.info? 45).map (·.size) = some x.cells.size := by kernel_rfl
  simp only [Instr.storeAt, Instr.sureAddr, Sem.run_bind, Sem.run_pure, Result.andThen_ok]
  exact run_storeVar_row w b 45 45 cs x.cells hX hi hs (fl_oneC x)
/-- What the document's Take says. -/
def tkP (l : List Pc) (i : Int) : List Pc × Int := match l[modA i l.length]? with | none => (l, 5) | some _ => (l.eraseIdx (modA i l.length), 0)
def wantP (l : List Pc) (i : Int) : Pc := (l[modA i l.length]?).getD ⟨0, 0, false, []⟩
def dblP (l : List Pc) (i : Int) : List Pc × Int := match l[modA i l.length]? with | none => (l, 5) | some x => sndP l x
theorem nilP {l : List Pc} (h : l.length = 0) (i : Int) : l[modA i l.length]? = none := List.getElem?_eq_none (by omega)
def RfT (w : World) (B : Option Addr) (ds : List Fl) (i : Int) (e : Ending) (w' : World) : Prop := ∃ (B' : Option Addr) (m' d' : Nat) (ds' : List Fl) (y : Fl), e = .returned (.tuple #[.slice B' m' d', .agg y.cells, .int .i64 (tkP (ds.map Fl.pc) i).2]) ∧ RfR w w' B ds [] B' m' d' ds' ∧ ds'.map Fl.pc = (tkP (ds.map Fl.pc) i).1 ∧ y.pc = wantP (ds.map Fl.pc) i ∧ FlIn w' y ∧ ∀ a, y.b ≠ [] → y.A = some a → RfO B ds a.block
theorem FlIn.zero (W : World) : FlIn W (⟨0, 0, none, 0, 0, false, []⟩ : Fl) := ⟨RdB.nil _ _ _, rfl, fun _ => ⟨rfl, rfl⟩, Nat.zero_le _⟩
set_option maxRecDepth 100000 in
set_option maxHeartbeats 4000000 in
theorem rfTake_none (B : Option Addr) (d : Nat) (ds : List Fl) (i : Int) (w : World) (h : RfM w B 0 d ds) : Calls Try.prog 15 #[.slice B 0 d, .int .i64 i] w (RfT w B ds i) := by
  have hX0 := blk_new w zFl 45
  have hB := b0 w (.cells zFl 45)
  have hzz : (w.alloc (.cells zFl 45)).heap.size = w.heap.size + 1 := by simp
  have hl0 : (ds.map Fl.pc).length = 0 := by rw [List.length_map, h.len]
  go_enter Try.func15, Try.ntmps15
  go_upto_region 2 with fail
  generalize (w.alloc (.cells zFl 45)) = W0 at hX0 hB hzz ⊢
  generalize hb : w.heap.size = b at hX0 hB hzz ⊢
  refine wp_region_lit ?_
  refine fl_start ?_
  generalize ha : Act.mk _ _ = a0
  have hn : a0.tmps.size = 32 := by rw [← ha]; kernel_rfl
  have h0 : (fr a0 []).eval (.tmp 0) = .slice B 0 d := by rw [← ha]; kernel_rfl
  refine fl_know hn rfl h0 ?_
  clear h0
  have h5 : (fr a0 [(0, true, .slice B 0 d)]).eval (.tmp 5) = .pointer (some ⟨b, 0, none⟩) := by rw [← ha]; kernel_rfl
  refine fl_know hn rfl h5 ?_
  clear h5
  refine g_mv hn ?_
  refine g_bd hn ?_ (qs := #[]) (v := .agg zFl) (g := true) (hp := fun _ _ => by simp) (hx := bdR0 _)
  refine g_as hn ?_
  refine g_str hX0 ?_ (h1 := by simp [Value.oneCell'])
  intro w4 ho4 hX4
  refine g_ac hn ?_
  refine fl_end ?_
  clear hn
  subst ha
  dsimp only [fr, cnd, Act.put, cond_true]
  simp only [List.setIfInBounds_toArray, List.set_cons_zero, List.set_cons_succ]
  have hB4 : Below b w w4 := hB.trans (ho4.below (Nat.le_refl _))
  go_wp2_with fail
  refine bodyPost_ret (results_tct Try.results15 _ _ (b) 45 zFl (0, 0) _ (by rfl) hX4 Try.underlying45 (by rfl) (by kernel_rfl)) rfl ?_
  have e1 : tkP (ds.map Fl.pc) i = (ds.map Fl.pc, 5) := by unfold tkP; rw [nilP hl0]
  have e2 : wantP (ds.map Fl.pc) i = ⟨0, 0, false, []⟩ := by unfold wantP; rw [nilP hl0]; rfl
  refine ⟨B, 0, d, ds, (⟨0, 0, none, 0, 0, false, []⟩ : Fl), ?_, RfR.same h (by first | exact hB4 | (rw [hb]; exact hB4)), ?_, ?_, FlIn.zero _, fun a h0 h => nomatch h⟩
  · rw [e1]
    rfl
  · rw [e1]
  · rw [e2]
theorem rfTake_fin {B : Option Addr} {m d : Nat} {ds : List Fl} {y : Fl} {w w6 w7 : World} {a4 : Addr} {c4 b k : Nat} {i : Int} (h : RfM w B m d ds) (hk : k = modA i m) (hkm : k < m) (hy : ds[k]? = some y) (hb : w.heap.size = b) (hO4 : OwnX tRf 4 (b + 2) w6 (some a4) (m - 1) c4 ((ds.take k ++ ds.drop (k + 1)).map Fl.cells)) (hB6 : Below b w w6) (ho : Only1 b w6 w7) : RfT w B ds i (.returned (.tuple #[.slice (some a4) (m - 1) c4, .agg y.cells, .int .i64 0])) w7 := by
  have hl : (ds.map Fl.pc).length = m := by rw [List.length_map, h.len]
  have hyp : (ds.map Fl.pc)[modA i (ds.map Fl.pc).length]? = some y.pc := by rw [hl, ← hk, List.getElem?_map, hy]; rfl
  have e1 : tkP (ds.map Fl.pc) i = ((ds.map Fl.pc).eraseIdx k, 0) := by unfold tkP; rw [hyp, hl, ← hk]
  have e2 : wantP (ds.map Fl.pc) i = y.pc := by unfold wantP; rw [hyp]; rfl
  have hBw : Below w.heap.size w w7 := by rw [hb]; exact hB6.trans (ho.below (Nat.le_refl _))
  have hO7 : OwnX tRf 4 (b + 2) w7 (some a4) (m - 1) c4 ((ds.take k ++ ds.drop (k + 1)).map Fl.cells) := hO4.onlyG ho (by omega)
  have hsub : ∀ z, z ∈ ds.take k ++ ds.drop (k + 1) → z ∈ ds := fun z hz => by
    rcases List.mem_append.1 hz with hz | hz
    · exact List.mem_of_mem_take hz
    · exact List.mem_of_mem_drop hz
  have hym := List.mem_of_getElem? hy
  refine ⟨_, _, _, _, y, by rw [e1], ⟨⟨hO7.rd, ?_, hO7.cap.1, fun z hz => (h.byt z (hsub z hz)).keep hBw⟩, hBw, fun j hj => ?_⟩, ?_, by rw [e2], (h.byt y hym).keep hBw, fun a hne ha => .inr ⟨y, hym, hne, a, ha, rfl⟩⟩
  · have := hO7.len
    rw [List.length_map] at this
    exact this
  · rcases hj with ⟨_, a, ha, rfl⟩ | ⟨z, hz, hne, a, ha, rfl⟩
    · injection ha with ha
      subst ha
      have := (hO7.blk rfl).1
      exact .inr (.inr (by omega))
    · exact .inl (.inr ⟨z, hsub z hz, hne, a, ha, rfl⟩)
  · rw [e1, List.eraseIdx_eq_take_drop_succ, List.map_append, List.map_take, List.map_drop]
set_option maxRecDepth 100000 in
set_option maxHeartbeats 4000000 in
theorem rfTake_some (B : Option Addr) (m d : Nat) (ds : List Fl) (i : Int) (w : World) (h : RfM w B m d ds) (h0 : 0 < m) (hm : m ≤ 1000000) : Calls Try.prog 15 #[.slice B m d, .int .i64 i] w (RfT w B ds i) := by
  have hlt := modA_lt i h0
  have e0 : ((m : Int) == 0) = false := by rw [beq_eq_false_iff_ne]; omega
  have hX0 := blk_new w zFl 45
  have hB := b0 w (.cells zFl 45)
  have hzz : (w.alloc (.cells zFl 45)).heap.size = w.heap.size + 1 := by simp
  have hM0 := h.keep (b0 w (.cells zFl 45))
  obtain ⟨k, hk⟩ : ∃ k, k = modA i m := ⟨_, rfl⟩
  rw [← hk] at hlt
  go_enter Try.func15, Try.ntmps15
  go_upto_region 3 with fail
  generalize (w.alloc (.cells zFl 45)) = W0 at hX0 hB hzz hM0 ⊢
  generalize hb : w.heap.size = b at hX0 hB hzz hM0 ⊢
  have cA := rfAt_any i B m d W0 h0 hm
  rw [← hk] at cA
  refine wp_region_lit ?_
  refine fl_start ?_
  generalize ha : Act.mk _ _ = a0
  have hn : a0.tmps.size = 32 := by rw [← ha]; kernel_rfl
  have h0 : (fr a0 []).eval (.tmp 0) = .slice B m d := by rw [← ha]; kernel_rfl
  refine fl_know hn rfl h0 ?_
  clear h0
  have h1 : (fr a0 [(0, true, .slice B m d)]).eval (.tmp 1) = .int .i64 i := by rw [← ha]; kernel_rfl
  refine fl_know hn rfl h1 ?_
  clear h1
  refine g_mv hn ?_
  refine g_mv hn ?_
  refine g_c2x en_spinney_spinneyref22_at hn (R := fun v w2 => v = .int .i64 (k : Nat) ∧ W0 = w2) (cA.mono fun _ _ ⟨he, hw⟩ => ⟨_, he, rfl, hw.symm⟩) ?_
  rintro v w2 ⟨rfl, hw2⟩
  subst hw2
  refine g_as hn ?_
  refine fl_end ?_
  clear hn cA
  subst ha
  dsimp only [fr, cnd, Act.put, cond_true]
  simp only [List.setIfInBounds_toArray, List.set_cons_zero, List.set_cons_succ]
  obtain ⟨ad, y, rfl, hy, hadb, hc⟩ := hM0.at hlt
  have ix := rfix W0 ad m d k hlt
  have ld := rfld hc
  clear hc
  go_upto_region 4 with fail
  refine wp_region_lit ?_
  refine fl_start ?_
  generalize ha : Act.mk _ _ = a0
  have hn : a0.tmps.size = 32 := by rw [← ha]; kernel_rfl
  have h0 : (fr a0 []).eval (.tmp 0) = .slice (some ad) m d := by rw [← ha]; kernel_rfl
  refine fl_know hn rfl h0 ?_
  clear h0
  have h7 : (fr a0 [(0, true, .slice (some ad) m d)]).eval (.tmp 7) = .int .i64 (k : Nat) := by rw [← ha]; kernel_rfl
  refine fl_know hn rfl h7 ?_
  clear h7
  refine g_mv hn ?_
  refine g_mv hn ?_
  refine g_ix hn ?_
  refine g_ld hn ?_
  refine g_w (v := .pointer (some ⟨W0.heap.size, 0, none⟩)) (w2 := W0.alloc (.cells zFl 45)) hn (fun _ => x_alRf) ?_
  have hX1 := blk_new W0 zFl 45
  have hb1 := b0 W0 (.cells zFl 45)
  have hz1 : (W0.alloc (.cells zFl 45)).heap.size = W0.heap.size + 1 := by simp
  generalize W0.alloc (.cells zFl 45) = w1 at hX1 hb1 hz1 ⊢
  obtain ⟨b2, hb2⟩ : ∃ b2, b2 = W0.heap.size := ⟨_, rfl⟩
  rw [← hb2] at hX1 ⊢
  refine g_str hX1 ?_ (h1 := fl_oneC y)
  intro w2 ho2 hX2
  refine fl_end ?_
  clear hn ix ld
  subst ha
  dsimp only [fr, cnd, Act.put, cond_true]
  simp only [List.setIfInBounds_toArray, List.set_cons_zero, List.set_cons_succ]
  have hW2 : Below W0.heap.size W0 w2 := hb1.trans (ho2.below (by omega))
  have hX02 := hX0.keep hW2
  have hM2 := hM0.keep hW2
  have hz2 : w2.heap.size = b + 2 := by rw [ho2.size, hz1]; omega
  have hB2 : Below b w w2 := hB.trans (hW2.mono (by omega))
  clear hX0 hX1 hb1 hz1 ho2 hM0 hB hW2 hadb
  obtain ⟨aL, qL, hL⟩ := rsl_lo ad m d (k + 1) (by omega) hM2.cap
  have qH : ∀ W : World, (Instr.sliceAt 41 (.slice (some ad) m d) none (some (.int .i64 (k : Int))) none).run Try.prog W = .ok (.slice (some ad) k d) W := fun W => rsl_hi W ad m d k (by omega) hM2.cap
  have l31 : ∀ W, (fun W => (∃ x0 : Fl, Blk W b x0.cells tRf) ∧ Blk W b2 y.cells tRf) W → _ := fun W h => ld_rf h.2
  go_upto_region 5 with fail
  refine fh_start (S := (fun W => (∃ x0 : Fl, Blk W b x0.cells tRf) ∧ Blk W b2 y.cells tRf)) (by kernel_rfl) (⟨⟨(⟨0, 0, none, 0, 0, false, []⟩ : Fl), hX02⟩, hX2⟩) (fun hS => ?_)
  generalize ha : Act.mk _ _ = a0
  have hn : a0.tmps.size = 32 := by rw [← ha]; kernel_rfl
  have h0 : (fr a0 []).eval (.tmp 0) = .slice (some ad) m d := by rw [← ha]; kernel_rfl
  refine fh_know hn rfl h0 ?_
  clear h0
  have h5 : (fr a0 [(0, true, .slice (some ad) m d)]).eval (.tmp 5) = .pointer (some ⟨b, 0, none⟩) := by rw [← ha]; kernel_rfl
  refine fh_know hn rfl h5 ?_
  clear h5
  have h7 : (fr a0 [(5, true, .pointer (some ⟨b, 0, none⟩)), (0, true, .slice (some ad) m d)]).eval (.tmp 7) = .int .i64 (k : Nat) := by rw [← ha]; kernel_rfl
  refine fh_know hn rfl h7 ?_
  clear h7
  have h8 : (fr a0 [(7, true, .int .i64 (k : Nat)), (5, true, .pointer (some ⟨b, 0, none⟩)), (0, true, .slice (some ad) m d)]).eval (.tmp 8) = .pointer (some ⟨b2, 0, none⟩) := by rw [← ha]; kernel_rfl
  refine fh_know hn rfl h8 ?_
  clear h8
  refine h_mv 1 hn hS ?_
  refine h_mv 2 hn hS ?_
  refine h_op 3 hn hS (fun W _ hk => x_shiC (lk_at hk (i := 22) rfl (fun _ => rfl) rfl) (lk_at hk (i := 23) rfl (fun _ => rfl) rfl) (qH W)) ?_
  refine h_mv 5 hn hS ?_
  refine h_mv 6 hn hS ?_
  refine h_bc 7 hn hS ?_ (hx := fun W _ => addInt W k (by omega) _ _)
  refine h_op 8 hn hS (fun W _ hk => x_sloC (lk_at hk (i := 26) rfl (fun _ => rfl) rfl) (lk_at hk (i := 28) rfl (fun _ => rfl) rfl) (qL W)) ?_
  refine h_ld 10 hn hS ?_
  have ba := b0 w2.drew (.cells #[] 45)
  have hE1 := own0R w2.drew w2.heap.size (Nat.le_refl _)
  have hbE : Below w2.heap.size w2 (w2.drew.alloc (.cells #[] 45)) := bel_un29 ba
  have hSE : (fun W => (∃ x0 : Fl, Blk W b x0.cells tRf) ∧ Blk W b2 y.cells tRf) (w2.drew.alloc (.cells #[] 45)) := ⟨⟨(⟨0, 0, none, 0, 0, false, []⟩ : Fl), hX02.keep hbE⟩, hX2.keep hbE⟩
  refine fh_valx 0 (d := 21) hn rfl (fun hk => x_bsR0) hSE ?_ rfl rfl (by kernel_rfl) rfl
  have hg0 : w2.drew.heap.size = w2.heap.size := rfl
  generalize w2.drew.alloc (.cells #[] 45) = v1 at hE1 hbE hSE ba ⊢
  rw [hg0] at hE1 ⊢
  clear ba
  have hlk : (ds.take k).length = k := by rw [List.length_take, h.len]; omega
  have hld : (ds.drop (k + 1)).length = m - (k + 1) := by rw [List.length_drop, h.len]
  obtain ⟨a1, c1, v2, hr1, hR1, hb3, -⟩ := run_apR (ty := 41) (dd := d) v1 hE1 ((hM2.keep hbE).rd.hiR k) hlk (by omega) hbE.size
  rw [Nat.zero_add] at hr1 hR1
  rw [List.nil_append] at hR1
  have hbv := hbE.trans hb3
  have hSv : (fun W => (∃ x0 : Fl, Blk W b x0.cells tRf) ∧ Blk W b2 y.cells tRf) v2 := ⟨⟨(⟨0, 0, none, 0, 0, false, []⟩ : Fl), hX02.keep hbv⟩, hX2.keep hbv⟩
  refine fh_valx 4 (d := 25) hn rfl (fun hk => x_ap (lk_at hk (i := 21) rfl (fun _ => rfl) rfl) (lk_at hk (i := 24) rfl (fun _ => rfl) rfl) hr1) hSv ?_ rfl rfl (by kernel_rfl) rfl
  obtain ⟨a4, c4, v4, hr4, hR4, hb4, -⟩ := run_apR (ty := 41) (dd := d - (k + 1)) v2 hR1 ((hM2.keep hbv).rd.loR (k + 1) (fun hh => hL (by rw [h.len] at hh; exact hh))) hld (by omega) hbv.size
  rw [show k + (m - (k + 1)) = m - 1 by omega] at hr4 hR4
  have hb5 := hbv.trans hb4
  have hS4 : (fun W => (∃ x0 : Fl, Blk W b x0.cells tRf) ∧ Blk W b2 y.cells tRf) v4 := ⟨⟨(⟨0, 0, none, 0, 0, false, []⟩ : Fl), hX02.keep hb5⟩, hX2.keep hb5⟩
  refine fh_valx 9 (d := 30) hn rfl (fun hk => x_ap (lk_at hk (i := 25) rfl (fun _ => rfl) rfl) (lk_at hk (i := 29) rfl (fun _ => rfl) rfl) hr4) hS4 ?_ rfl rfl (by kernel_rfl) rfl
  refine h_as 11 hn hS4 ?_
  have ho5 := only_row v4 b y.cells
  have hXb := hX02.keep hb5
  have hX5 := hXb.row y.cells
  have hbb : b2 ≠ b := by omega
  have hS5 : (fun W => (∃ x0 : Fl, Blk W b x0.cells tRf) ∧ Blk W b2 y.cells tRf) (v4.setRow b y.cells) := ⟨⟨y, hX5⟩, hS4.2.only ho5 hbb⟩
  refine h_st 12 (st_rowR hXb rfl) hS5 ?_
  refine h_ac 13 hn hS5 ?_
  refine fh_end (by kernel_rfl) ?_
  clear hn qL qH l31
  subst ha
  dsimp only [fr, cnd, Act.put, cond_true]
  simp only [List.setIfInBounds_toArray, List.set_cons_zero, List.set_cons_succ]
  generalize v4.setRow b y.cells = w7 at hX5 ho5 ⊢
  go_wp2_with fail
  refine bodyPost_ret (results_tct Try.results15 _ _ (b) 45 y.cells (0, 0) _ (by rfl) hX5 Try.underlying45 (by rfl) (by kernel_rfl)) rfl ?_
  rw [hz2] at hR4
  exact rfTake_fin h hk hlt hy hb hR4 (hB2.trans (hb5.mono (by omega))) ho5
/-- The document's Take. -/
theorem rfTake_any (B : Option Addr) (m d : Nat) (ds : List Fl) (i : Int) (w : World) (h : RfM w B m d ds) (hm : m ≤ 1000000) : Calls Try.prog 15 #[.slice B m d, .int .i64 i] w (RfT w B ds i) := by
  by_cases h0 : 0 < m
  · exact rfTake_some B m d ds i w h h0 hm
  · have e : m = 0 := by omega
    subst e
    exact rfTake_none B d ds i w h
set_option maxRecDepth 100000 in
set_option maxHeartbeats 4000000 in
theorem rfDouble_none (B : Option Addr) (d : Nat) (ds : List Fl) (i : Int) (w : World) (h : RfM w B 0 d ds) : Calls Try.prog 18 #[.slice B 0 d, .int .i64 i] w (RfA w B ds [] (dblP (ds.map Fl.pc) i)) := by
  have hl0 : (ds.map Fl.pc).length = 0 := by rw [List.length_map, h.len]
  go_enter Try.func18, Try.ntmps18
  go_wp2_with fail
  go_ret2
  have e1 : dblP (ds.map Fl.pc) i = (ds.map Fl.pc, 5) := by unfold dblP; rw [nilP hl0]
  rw [e1]
  exact ⟨B, 0, d, ds, rfl, RfR.same h (Below.refl _ _), rfl⟩
set_option maxRecDepth 100000 in
set_option maxHeartbeats 4000000 in
theorem rfDouble_some (B : Option Addr) (m d : Nat) (ds : List Fl) (i : Int) (w : World) (h : RfM w B m d ds) (h0 : 0 < m) (hm : m ≤ 1000000) : Calls Try.prog 18 #[.slice B m d, .int .i64 i] w (RfA w B ds [] (dblP (ds.map Fl.pc) i)) := by
  have hlt := modA_lt i h0
  have e0 : ((m : Int) == 0) = false := by rw [beq_eq_false_iff_ne]; omega
  have hl : (ds.map Fl.pc).length = m := by rw [List.length_map, h.len]
  have cA := rfAt_any i B m d w h0 hm
  obtain ⟨k, hk⟩ : ∃ k, k = modA i m := ⟨_, rfl⟩
  rw [← hk] at hlt cA
  obtain ⟨ad, y, rfl, hy, hadb, hc⟩ := h.at hlt
  have ix := rfix w ad m d k hlt
  have ld := rfld hc
  have hym := List.mem_of_getElem? hy
  have cS := rfSend_any (some ad) m d ds y w h (h.byt y hym)
  have e1 : dblP (ds.map Fl.pc) i = sndP (ds.map Fl.pc) y.pc := by
    unfold dblP
    rw [hl, ← hk, List.getElem?_map, hy]
    rfl
  rw [e1]
  clear hc
  go_enter Try.func18, Try.ntmps18
  go_upto_region 3 with fail
  refine wp_region_lit ?_
  refine fl_start ?_
  generalize ha : Act.mk _ _ = a0
  have hn : a0.tmps.size = 20 := by rw [← ha]; kernel_rfl
  have h0 : (fr a0 []).eval (.tmp 0) = .slice (some ad) m d := by rw [← ha]; kernel_rfl
  refine fl_know hn rfl h0 ?_
  clear h0
  have h1 : (fr a0 [(0, true, .slice (some ad) m d)]).eval (.tmp 1) = .int .i64 i := by rw [← ha]; kernel_rfl
  refine fl_know hn rfl h1 ?_
  clear h1
  refine g_mv hn ?_
  refine g_mv hn ?_
  refine g_mv hn ?_
  refine g_mv hn ?_
  refine g_c2x en_spinney_spinneyref22_at hn (R := fun v w2 => v = .int .i64 (k : Nat) ∧ w = w2) (cA.mono fun _ _ ⟨he, hw⟩ => ⟨_, he, rfl, hw.symm⟩) ?_
  rintro v w2 ⟨rfl, hw2⟩
  subst hw2
  refine g_ix hn ?_
  refine g_ld hn ?_
  refine g_c2x en_spinney_spinneyref22_Send hn (R := fun v w2 => ∃ (B' : Option Addr) (m' d' : Nat) (ds' : List Fl), v = .tuple #[.slice B' m' d', .int .i64 (sndP (ds.map Fl.pc) y.pc).2] ∧ RfR w w2 (some ad) ds [] B' m' d' ds' ∧ ds'.map Fl.pc = (sndP (ds.map Fl.pc) y.pc).1) (cS.mono fun _ _ ⟨B', m', d', ds', he, hR, hp⟩ => ⟨_, he, B', m', d', ds', rfl, ⟨hR.m, hR.bel, fun k hk => by
    rcases hR.new k hk with h1 | h1 | h1
    · exact .inl h1
    · rcases h1 with ⟨_, a, ha, _⟩ | ⟨z, hz, hne, a, ha, e⟩
      · cases ha
      · rw [List.mem_singleton] at hz
        subst hz
        exact .inl (.inr ⟨z, hym, hne, a, ha, e⟩)
    · exact .inr (.inr h1)⟩, hp⟩) ?_
  rintro v w2 ⟨B', m', d', ds', rfl, hR, hp⟩
  refine g_ex hn ?_
  refine g_ex hn ?_
  refine g_as hn ?_
  refine g_as hn ?_
  refine fl_end ?_
  clear hn ix ld cA cS
  subst ha
  dsimp only [fr, cnd, Act.put, cond_true]
  simp only [List.setIfInBounds_toArray, List.set_cons_zero, List.set_cons_succ]
  go_wp2_with fail
  go_ret2
  exact ⟨B', m', d', ds', rfl, hR, hp⟩
/-- The document's Double. -/
theorem rfDouble_any (B : Option Addr) (m d : Nat) (ds : List Fl) (i : Int) (w : World) (h : RfM w B m d ds) (hm : m ≤ 1000000) : Calls Try.prog 18 #[.slice B m d, .int .i64 i] w (RfA w B ds [] (dblP (ds.map Fl.pc) i)) := by
  by_cases h0 : 0 < m
  · exact rfDouble_some B m d ds i w h h0 hm
  · have e : m = 0 := by omega
    subst e
    exact rfDouble_none B d ds i w h
end Go.Proofs.Ytdfifcgpjeojlaa

namespace Go.Proofs.Ytdfifcgpjeojlaa
open Go.RowKit

theorem quo8T (W : World) (i j v m : Nat) (hm : 0 < m) (hv : v < 256) : ((do eqGuard .quo 5 (.tmp i) (.tmp j) (.int .u8 (v : Int)) (.int .u8 (m : Int)); binOp .quo 5 (.int .u8 (v : Int)) (.int .u8 (m : Int))) : Sem Value).run Try.prog W = .ok (.int .u8 ((v / m : Nat) : Int)) W := by
  have h1 : v / m ≤ v := Nat.div_le_self v m
  have e2 : (v : Int).tdiv (m : Int) = ((v / m : Nat) : Int) := rfl
  have e2' : (v : Int) / (m : Int) = ((v / m : Nat) : Int) := by rw [Int.natCast_ediv]
  have h3 : ((m : Int) == 0) = false := by rw [beq_eq_false_iff_ne]; omega
  have h4 : ¬ (m : Int) = 0 := by omega
  generalize v / m = q at *
  have hw : IntKind.u8.wrap (q : Int) = (q : Int) := by unfold IntKind.wrap; simp [IntKind.bits, IntKind.signed]; omega
  go_simp
  try omega
theorem rem8T (W : World) (i v : Nat) (hv : v < 256) : ((do eqGuard .rem 5 (.tmp i) (.const (.int .u8 2)) (.int .u8 (v : Int)) (.int .u8 2); binOp .rem 5 (.int .u8 (v : Int)) (.int .u8 2)) : Sem Value).run Try.prog W = .ok (.int .u8 ((v % 2 : Nat) : Int)) W := by
  have e : ((v % 2 : Nat) : Int) = (v : Int) % 2 := by omega
  have e2 : (v : Int).tmod 2 = (v : Int) % 2 := Int.tmod_eq_emod_of_nonneg (by omega)
  have e3 : IntKind.u8.wrap ((v : Int) % 2) = (v : Int) % 2 := by unfold IntKind.wrap; simp [IntKind.bits, IntKind.signed]; omega
  rw [e]
  clear e
  go_simp
theorem eq8T (W : World) (i v : Nat) (b : Bool) (h : (v == 1) = b) : ((do eqGuard .eql 5 (.tmp i) (.const (.int .u8 1)) (.int .u8 (v : Int)) (.int .u8 1); binOp .eql 5 (.int .u8 (v : Int)) (.int .u8 1)) : Sem Value).run Try.prog W = .ok (.bool b) W := by
  have h2 : ((v : Int) == 1) = b := by
    rw [← h, Bool.eq_iff_iff]
    simp only [beq_iff_eq]
    omega
  go_simp
  try exact h2
theorem mul8T (W : World) (i v : Nat) (hv : v * 2 < 256) : ((do eqGuard .mul 5 (.tmp i) (.const (.int .u8 2)) (.int .u8 (v : Int)) (.int .u8 2); binOp .mul 5 (.int .u8 (v : Int)) (.int .u8 2)) : Sem Value).run Try.prog W = .ok (.int .u8 ((v * 2 : Nat) : Int)) W := by
  have e : ((v * 2 : Nat) : Int) = (v : Int) * 2 := by omega
  have e2 : IntKind.u8.wrap ((v : Int) * 2) = (v : Int) * 2 := by unfold IntKind.wrap; simp [IntKind.bits, IntKind.signed]; omega
  rw [e]
  clear e
  go_simp
theorem sub8T (W : World) (i j v m : Nat) (hm : m ≤ v) (hv : v < 256) : ((do eqGuard .sub 5 (.tmp i) (.tmp j) (.int .u8 (v : Int)) (.int .u8 (m : Int)); binOp .sub 5 (.int .u8 (v : Int)) (.int .u8 (m : Int))) : Sem Value).run Try.prog W = .ok (.int .u8 ((v - m : Nat) : Int)) W := by
  have e : ((v - m : Nat) : Int) = (v : Int) - (m : Int) := by omega
  have e2 : IntKind.u8.wrap ((v : Int) - (m : Int)) = (v : Int) - (m : Int) := by unfold IntKind.wrap; simp [IntKind.bits, IntKind.signed]; omega
  rw [e]
  clear e
  go_simp
theorem add8T (W : World) (i j v m : Nat) (hv : v + m < 256) : ((do eqGuard .add 5 (.tmp i) (.tmp j) (.int .u8 (v : Int)) (.int .u8 (m : Int)); binOp .add 5 (.int .u8 (v : Int)) (.int .u8 (m : Int))) : Sem Value).run Try.prog W = .ok (.int .u8 ((v + m : Nat) : Int)) W := by
  have e : ((v + m : Nat) : Int) = (v : Int) + (m : Int) := by omega
  have e2 : IntKind.u8.wrap ((v : Int) + (m : Int)) = (v : Int) + (m : Int) := by unfold IntKind.wrap; simp [IntKind.bits, IntKind.signed]; omega
  rw [e]
  clear e
  go_simp
/-- One more, as the law spoils bytes. -/
theorem inc8T (W : World) (i v : Nat) : ∃ x : UInt8, ((do eqGuard .add 5 (.tmp i) (.const (.int .u8 1)) (.int .u8 (v : Int)) (.int .u8 1); binOp .add 5 (.int .u8 (v : Int)) (.int .u8 1)) : Sem Value).run Try.prog W = .ok (.int .u8 (x.toNat : Int)) W := by
  have e : IntKind.u8.wrap ((v : Int) + 1) = (((UInt8.ofNat (v + 1)).toNat : Nat) : Int) := by
    rw [UInt8.toNat_ofNat']
    unfold IntKind.wrap
    simp [IntKind.bits, IntKind.signed]
  refine ⟨UInt8.ofNat (v + 1), ?_⟩
  go_simp
theorem flip_all : ∀ (e : Fin 8) (v : Fin 256), (v.val / 2 ^ e.val % 2 = 1 → 2 ^ e.val ≤ v.val ∧ v.val - 2 ^ e.val = (UInt8.ofNat v.val ^^^ bitA e.val).toNat) ∧ (v.val / 2 ^ e.val % 2 ≠ 1 → v.val + 2 ^ e.val < 256 ∧ v.val + 2 ^ e.val = (UInt8.ofNat v.val ^^^ bitA e.val).toNat) := by decide +kernel
theorem flip_is (x : UInt8) {e : Nat} (he : e < 8) : (x.toNat / 2 ^ e % 2 = 1 → 2 ^ e ≤ x.toNat ∧ x.toNat - 2 ^ e = (x ^^^ bitA e).toNat) ∧ (x.toNat / 2 ^ e % 2 ≠ 1 → x.toNat + 2 ^ e < 256 ∧ x.toNat + 2 ^ e = (x ^^^ bitA e).toNat) := by
  have h := flip_all ⟨e, he⟩ ⟨x.toNat, x.toNat_lt⟩
  rw [show UInt8.ofNat (⟨x.toNat, x.toNat_lt⟩ : Fin 256).val = x from by simp] at h
  exact h
theorem two_le {e : Nat} (he : e < 8) : 2 ^ e ≤ 128 ∧ 0 < 2 ^ e := by
  refine ⟨?_, Nat.two_pow_pos e⟩
  have := Nat.pow_le_pow_right (n := 2) (by decide) (show e ≤ 7 by omega)
  simpa using this
theorem OwnX.storeA {t : TypeId} {z base g n c k j : Nat} {W W' : World} {cur cs : Array Value} {l : List (Array Value)} {v : Value} (h : OwnX t z base W (some ⟨g, 0, none⟩) n c l) (hx : l[k]? = some cs) (hj : j < z) (hX : Blk W g cur t) (hX' : Blk W' g (cur.setIfInBounds (k * z + j) v) t) : OwnX t z base W' (some ⟨g, 0, none⟩) n c (l.set k (cs.setIfInBounds j v)) := by
  have hR6 := own_blkA (W' := W') (h.1.stored (k * z + j) v).1 (hX'.trans (hX.set (k * z + j) v).symm)
  rw [celV_set l h.2.1 k j cs v hx hj] at hR6
  refine ⟨hR6, fun d hd => ?_, by rw [List.length_set]; exact h.2.2⟩
  rcases List.mem_or_eq_of_mem_set hd with hd | rfl
  · exact h.2.1 d hd
  · rw [Array.size_setIfInBounds]
    exact h.2.1 cs (List.mem_of_getElem? hx)
end Go.Proofs.Ytdfifcgpjeojlaa
