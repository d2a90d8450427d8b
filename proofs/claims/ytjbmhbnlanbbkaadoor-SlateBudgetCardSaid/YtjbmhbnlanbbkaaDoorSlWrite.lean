/-
  WHAT IS PROVED: slate.Write: what it answers, what turns. Conditions: those typed in each theorem.
-/
import Derived.Test.YtjbmhbnlanbbkaaDoorGQ3
import Derived.Laws.IdiomCopy
import Derived.Great.BuildSlice
namespace Go.Proofs.YtjbmhbnlanbbkaaDoor
open Go.RowKit

/-- 64 bytes of these, noughts behind. -/
def padL (l : List UInt8) : List UInt8 := l ++ List.replicate (64 - l.length) 0
theorem padL_len {l : List UInt8} (h : l.length ≤ 64) : (padL l).length = 64 := by
  unfold padL
  rw [List.length_append, List.length_replicate]
  omega
theorem setL_get : ∀ (vs : List Value) (cs : Array Value) (j : Nat), j + vs.length ≤ cs.size → ∀ i, (setL cs j vs)[i]? = if j ≤ i ∧ i < j + vs.length then vs[i - j]? else cs[i]?
  | [], cs, j, _, i => by
    rw [if_neg (by simp)]
    rfl
  | v :: r, cs, j, h, i => by
    have hlt : j < cs.size := by simp at h; omega
    show (setL (cs.setIfInBounds j v) (j + 1) r)[i]? = _
    rw [setL_get r _ (j + 1) (by simp at h ⊢; omega) i]
    simp only [List.length_cons]
    by_cases e : i = j
    · subst e
      rw [if_neg (by omega), if_pos (by omega), Array.getElem?_setIfInBounds_self_of_lt hlt]
      simp
    · by_cases h2 : j + 1 ≤ i ∧ i < j + 1 + r.length
      · rw [if_pos h2, if_pos (by omega), show i - j = (i - (j + 1)) + 1 by omega]
        rfl
      · rw [if_neg h2, if_neg (by omega), Array.getElem?_setIfInBounds_ne (fun q => e q.symm)]
theorem pad_cells (f b : Int) {l : List UInt8} (h : l.length ≤ 64) : setL (Pw.cells ⟨f, b, z64⟩) 2 (l.map fun u => Value.int .u8 (u.toNat : Int)) = Pw.cells ⟨f, b, padL l⟩ := by
  apply Array.ext_getElem?
  intro i
  have hsz : (Pw.cells ⟨f, b, z64⟩).size = 66 := pw_size rfl
  rw [setL_get _ _ _ (by rw [List.length_map, hsz]; omega)]
  rw [List.length_map]
  by_cases h0 : i < 2
  · rw [if_neg (by omega)]
    have : i = 0 ∨ i = 1 := by omega
    rcases this with rfl | rfl
    · rw [pw_0, pw_0]
    · rw [pw_1, pw_1]
  · obtain ⟨k, rfl⟩ : ∃ k, i = 2 + k := ⟨i - 2, by omega⟩
    rw [pw_at ⟨f, b, padL l⟩ k]
    unfold bkA padL
    by_cases h1 : k < l.length
    · rw [if_pos (by omega), show 2 + k - 2 = k by omega, List.getElem?_toArray, List.map_append, List.getElem?_append_left (by rw [List.length_map]; exact h1)]
    · rw [if_neg (by omega), pw_at ⟨f, b, z64⟩ k]
      unfold bkA z64
      rw [List.getElem?_toArray, List.getElem?_toArray, List.map_append, List.getElem?_append_right (by rw [List.length_map]; omega), List.map_replicate, List.map_replicate, List.length_map]
      by_cases h2 : k < 64
      · rw [List.getElem?_replicate, if_pos h2, List.getElem?_replicate, if_pos (by omega)]
      · rw [List.getElem?_replicate, if_neg h2, List.getElem?_replicate, if_neg (by omega)]
theorem bd_pw (f b : Int) (W : World) : (Instr.build 61 #[(0, .int .i64 f), (1, .int .i64 b)]).run Tryd.prog W = .ok (.agg (Pw.cells ⟨f, b, z64⟩)) W := by kernel_rfl
theorem sl_arr (W : World) (b : Nat) : (Instr.sliceAt 59 (.pointer (some ⟨b, 2, none⟩)) none none none).run Tryd.prog W = .ok (.slice (some ⟨b, 2, none⟩) 64 64) W := by kernel_rfl
theorem run_al (W : World) : (Instr.alloc 61 true (.tuple #[])).run Tryd.prog W = .ok (.pointer (some ⟨W.heap.size, 0, none⟩)) (W.alloc (.cells (Pw.cells ⟨0, 0, z64⟩) 61)) := by kernel_rfl
theorem pw_info : (Tryd.prog.info? 61).map (fun i => (i.zero, i.size, i.bytes)) = some (some (.agg (Pw.cells ⟨0, 0, z64⟩)), 66, 80) := by kernel_rfl
theorem fold_setL (off : Nat) : ∀ (l : List Value) (k : Nat) (cs : Array Value), (l.zipIdx k).foldl (fun cs (p : Value × Nat) => cs.setIfInBounds (off + p.2) p.1) cs = setL cs (off + k) l
  | [], _, _ => rfl
  | v :: r, k, cs => by
    rw [List.zipIdx_cons, List.foldl_cons, fold_setL off r (k + 1)]
    rfl
theorem fill_one (v cs : Array Value) (h : v.size = cs.size) (hv : (Value.agg v).cells = v) : Instr.fill (fun i => some (i * v.size, v.size)) cs [(0, .agg v)] = some v := by
  unfold Instr.fill
  simp only [hv, Nat.zero_mul, Nat.zero_add]
  rw [if_neg (by simp [h])]
  unfold Instr.fill
  congr 1
  rw [← Array.foldl_toList, Array.toList_zipIdx]
  have := fold_setL 0 v.toList 0 cs
  simp only [Nat.zero_add] at this
  refine Eq.trans ?_ (this.trans ?_)
  · rfl
  · apply Array.ext_getElem?
    intro i
    rw [setL_get _ _ _ (by simp [h])]
    by_cases hi : i < v.size
    · rw [if_pos (by simp; exact hi)]
      simp
    · rw [if_neg (by simp; omega), Array.getElem?_eq_none (by omega), Array.getElem?_eq_none (by omega)]
theorem run_bs (W : World) (x : Pw) (hl : x.l.length = 64) : (Instr.buildSlice 42 1 #[(0, .agg x.cells)]).run Tryd.prog W = .ok (.slice (some ⟨W.heap.size, 0, none⟩) 1 1) (W.alloc (.cells x.cells 61)) := by
  obtain ⟨i0, hi0, hz0, hs0, hy0⟩ := info_parts pw_info
  have h66 : x.cells.size = 66 := pw_size hl
  refine run_buildSlice W 42 61 1 _ x.cells i0 _ Tryd.underlying42 hi0 hz0 (by rw [hs0]; decide) (by rw [hs0]; decide) ?_
  rw [hs0]
  have := fill_one x.cells ((Array.range (1 * 66)).map ((Value.agg (Pw.cells ⟨0, 0, z64⟩)).cells[· % (Value.agg (Pw.cells ⟨0, 0, z64⟩)).cells.size]!)) (by rw [h66]; simp) rfl
  rw [h66] at this
  exact this
theorem isErr_any (S : Addr) (ar : Bool) (bu : Int) (w : World) : Calls Tryd.prog 24 #[stV S ar bu, .iface 93 (.pointer (some S))] w fun e w' => ∃ v, e = .returned v ∧ v = .bool (spentB ar bu) ∧ w' = w := by
  unfold stV
  cases spentB ar bu with
  | true => exact (is_same S w).mono fun _ _ ⟨he, hw⟩ => ⟨_, he, rfl, hw⟩
  | false => exact (is_nil S w).mono fun _ _ ⟨he, hw⟩ => ⟨_, he, rfl, hw⟩

theorem le64 (m : Nat) : decide ((64 : Int) < (m : Int)) = !decide (m ≤ 64) := by
  rw [Bool.eq_iff_iff]
  simp
  omega
def okW (f b : Int) (l : List UInt8) : Bool := placeB f b && decide (l.length ≤ 64)
def Sl.spent (M : Sl) : Bool := spentB M.armed M.budget
/-- A slate behind a step that was refused. -/
def Sl.dies (M : Sl) : Sl := { M with dead := true }
def Sl.wrote (M : Sl) (x : Pw) : Sl := { M with seen := putD M.seen x, pend := M.pend ++ [x], budget := stB M.armed M.budget }
def wrCode (M : Sl) (f b : Int) (l : List UInt8) : Int := bif okW f b l then (bif M.spent then 7 else 0) else 1
def wrM (M : Sl) (f b : Int) (l : List UInt8) : Sl := bif okW f b l then (bif M.spent then M.dies else M.wrote ⟨f, b, padL l⟩) else M
theorem RdB.sl {C : Nat} {W W' : World} {A : Option Addr} {l : List UInt8} (h : RdB C W A l) {s d1 d2 n c : Nat} {B : Option Addr} {ar de : Bool} {bu : Int} {t : TypeId} (hX : Blk W s (slI d1 d2 B n c ar bu de) t) (ho : Only1 s W W') : RdB C W' A l := fun k x hk => by
  obtain ⟨ad, hA, hlt, hc⟩ := h k x hk
  refine ⟨ad, hA, hlt, ?_⟩
  have hne : (ad.add k).block ≠ s := by
    intro e
    unfold Blk at hX
    unfold World.cell? at hc
    rw [e, hX] at hc
    generalize ad.add k = a at hc
    obtain ⟨ab, ao, sp⟩ := a
    cases sp with
    | some _ => simp at hc
    | none =>
      have hc' : (slI d1 d2 B n c ar bu de)[ao]? = some (.int .u8 (x.toNat : Int)) := by simpa using hc
      match ao, hc' with
      | 0, hc' => cases hc'
      | 1, hc' => cases hc'
      | 2, hc' => cases hc'
      | 3, hc' => cases hc'
      | 4, hc' => cases hc'
      | 5, hc' => cases hc'
      | (q + 6), hc' => simp at hc'
  unfold World.cell? at hc ⊢
  rw [ho.block _ hne]
  exact hc
theorem padL_nil : padL [] = z64 := rfl
theorem copy_pw {C : Nat} (W : World) (p : Nat) (f b : Int) (l : List UInt8) (A : Option Addr) (m c : Nat) (ty : TypeId) (hY : Blk W p (Pw.cells ⟨f, b, z64⟩) 61) (hm : l.length = m) (h64 : m ≤ 64) (hr : RdB C W A l) :
    ∃ v W', (Builtin.copy_ #[28, 28] ty #[.slice (some ⟨p, 2, none⟩) 64 64, .slice A m c]).run Tryd.prog W = .ok v W' ∧ Only1 p W W' ∧ Blk W' p (Pw.cells ⟨f, b, padL l⟩) 61 := by
  have h66 : (Pw.cells ⟨f, b, z64⟩).size = 66 := pw_size rfl
  by_cases h0 : m = 0
  · subst h0
    have e : l = [] := List.eq_nil_of_length_eq_zero hm
    subst e
    exact ⟨_, W, run_copy_none W _ _ ty _ _ _ 64 64 0 c Tryd.underlying28 (by kernel_rfl) rfl, Only1.refl _ _, by rw [padL_nil]; exact hY⟩
  · obtain ⟨ad, rfl, _⟩ := hr.at_ (k := 0) (by omega)
    refine ⟨_, _, run_copy_cells W _ _ ty _ p 2 64 64 ad m c (l.map fun u => Value.int .u8 (u.toNat : Int)) Tryd.underlying28 (by kernel_rfl) (by rw [List.length_map, hm]; exact (Nat.min_eq_left h64).symm) ?_ ?_ ?_ ?_, only_cells p _ 2 W, ?_⟩
    · intro j v hj
      rw [List.getElem?_map] at hj
      cases hx : l[j]? with
      | none => rw [hx] at hj; cases hj
      | some x =>
        rw [hx] at hj
        cases hj
        obtain ⟨ad2, e2, _, h2⟩ := hr j x hx
        cases e2
        exact h2
    · intro j hj
      rw [List.length_map] at hj
      rw [hY.cell, Array.getElem?_eq_getElem (by rw [h66]; omega)]
      rfl
    · intro j _
      exact hY.free _
    · intro v hv
      obtain ⟨u, _, rfl⟩ := List.mem_map.1 hv
      rfl
    · rw [← pad_cells f b (by omega)]
      exact Blk.cells _ 2 W _ hY
theorem x_bs {P : Program} {w w2 : World} {i : Nat} {t ty : TypeId} {d : Option Tmp} {p : String} {af : Array Edge} {gd : Option (Nat × Bool)} {ρ : Operand → Value} {vi v : Value} (h1 : ρ (.tmp i) = vi) (hr : (Instr.buildSlice t 1 #[(0, vi)]).run P w = .ok v w2) :
    (execOp ρ ⟨d, .buildSlice t 1 #[(0, .tmp i)], ty, p, af, gd⟩).run P w = .ok (.value v) w2 := by
  unfold execOp
  simp only [List.map_toArray, List.map_cons, List.map_nil, h1, Sem.run_bind, hr]
  rfl
theorem st_slP {W : World} {b j : Nat} {cs : Array Value} {T : TypeId} (hX : Blk W b cs T) (hj : j < cs.size) (A : Option Addr) (n c : Nat) : (Instr.storeAt 42 (.pointer (some ⟨b, j, none⟩)) (.slice A n c)).run Tryd.prog W = .ok () (W.setCell ⟨b, j, none⟩ (.slice A n c)) := by
  obtain ⟨u, hu⟩ := blk_some hX hj
  have hf := hX.free j
  clear hX
  go_simp
/-- What an append leaves: the slate has one write more that is pending. -/
theorem wrote_fin {B s d1 d2 n c c' : Nat} {tg : Nat → Nat × Int} {f1 f2 : Int → Option Value} {A A' : Option Addr} {M : Sl} {x : Pw} {w0 w8 w10 : World} (hsB : B ≤ s) (hX : Blk w8 s (slI d1 d2 A n c M.armed (stB M.armed M.budget) M.dead) 44) (hD1 : DkR B tg 0 w8 d1 M.kept f1) (hD2 : DkR B tg 1 w8 d2 (putD M.seen x) f2) (hO : OwnX 61 66 B w8 A n c (M.pend.map Pw.cells))
    (hK : StK B w0 w8) (hP : ∀ y, y ∈ M.pend → y.l.length = 64) (hx : x.l.length = 64) (hbu : 0 ≤ stB M.armed M.budget ∧ stB M.armed M.budget ≤ 1099511627776) (hB : B ≤ w8.heap.size) (hg : (w8.alloc (.cells x.cells 61)).grownBy w10 (A.map (·.block))) (hO10 : OwnX 61 66 B w10 A' (n + 1) c' (M.pend.map Pw.cells ++ [x.cells])) :
    Blk w10 s (slI d1 d2 A n c M.armed (stB M.armed M.budget) M.dead) 44 ∧ SlR B (w10.setCell ⟨s, 2, none⟩ (.slice A' (n + 1) c')) s (M.wrote x) ∧ StK B w0 (w10.setCell ⟨s, 2, none⟩ (.slice A' (n + 1) c')) := by
  have hal := b0 w8 (.cells x.cells 61)
  have hsz : (w8.alloc (.cells x.cells 61)).heap.size = w8.heap.size + 1 := by simp
  have hold : ∀ y, y < w8.heap.size → (∀ cs, ¬ Blk w8 y cs 61) → w10.heap[y]? = w8.heap[y]? := fun y hy hn => by
    refine (hg.block y (by omega) ?_).trans (hal.block y hy)
    intro e
    cases hA : A with
    | none => rw [hA] at e; cases e
    | some a =>
      rw [hA] at e
      injection e with e
      have e' : a.block = y := e.symm
      obtain ⟨_, cs, hb⟩ := hO.row hA
      rw [e'] at hb
      exact hn cs hb
  have hX10 : Blk w10 s (slI d1 d2 A n c M.armed (stB M.armed M.budget) M.dead) 44 := (hold s hX.lt (fun cs hb => by
    unfold Blk at hX hb
    rw [hX] at hb
    injection hb with hb
    injection hb with _ hb _
    exact absurd hb (by decide))).trans hX
  have ho := only_cell w10 s 2 (.slice A' (n + 1) c')
  have hmap : ∀ (y : Nat) (es : Array MapEntry) (cl : Nat), w8.heap[y]? = some (Obj.map es cl) → (w10.setCell ⟨s, 2, none⟩ (.slice A' (n + 1) c')).heap[y]? = w8.heap[y]? := fun y es cl hy => by
    have hlt := (Array.getElem?_eq_some_iff.1 hy).1
    refine (ho.block y ?_).trans (hold y hlt fun cs hb => ?_)
    · rintro rfl
      unfold Blk at hX
      rw [hy] at hX
      cases hX
    · unfold Blk at hb
      rw [hy] at hb
      cases hb
  have hbel : Below B w8 (w10.setCell ⟨s, 2, none⟩ (.slice A' (n + 1) c')) := by
    have h1 : Below B w8 w10 := (hal.mono hB).trans ((Below.refl B _).grown hg (by omega) (fun k hk => by
      cases hA : A with
      | none => rw [hA] at hk; cases hk
      | some a =>
        rw [hA] at hk
        injection hk with hk
        have e' : a.block = k := hk
        rw [← e']
        exact (hO.row hA).1))
    exact h1.trans (ho.below hsB)
  refine ⟨hX10, ⟨tg, d1, d2, f1, f2, A', n + 1, c', hX10.set 2 _, hsB, hD1.maps hmap, hD2.maps hmap, ?_, ?_, hbu.1, hbu.2, Nat.le_trans hB hbel.size⟩, hK.trans ⟨hbel, fun y cs t fr hy h1 h2 => ?_⟩⟩
  · have := hO10.only hX10 ho (by decide)
    show OwnX 61 66 B _ A' (n + 1) c' ((M.pend ++ [x]).map Pw.cells)
    rw [List.map_append]
    exact this
  · intro y hy
    rcases List.mem_append.1 hy with h | h
    · exact hP y h
    · have e : y = x := by simpa using h
      rw [e]
      exact hx
  · have hlt := (Array.getElem?_eq_some_iff.1 hy).1
    refine (ho.block y ?_).trans (hold y hlt fun cs2 hb => ?_)
    · rintro rfl
      unfold Blk at hX
      rw [hy] at hX
      injection hX with hX
      injection hX with _ hX _
      exact h1 hX
    · unfold Blk at hb
      rw [hy] at hb
      injection hb with hb
      injection hb with _ hb _
      exact h2 hb
theorem enters_Write : ∀ args w, (callFunc 11 args).run Tryd.prog w = .ok (.enter 11 args) w := enters_of Tryd.func11 (by kernel_rfl) rfl

theorem nil_of_len {A : Option Addr} {l : List UInt8} {B : Nat} {W : World} (hr : RdB B W A l) (hl : 0 < l.length) : ∃ a, A = some a := by
  obtain ⟨ad, hA, _⟩ := hr.at_ hl
  exact ⟨ad, hA⟩
set_option maxRecDepth 100000 in
set_option maxHeartbeats 8000000 in
theorem write_any (S : Addr) (B s : Nat) (M : Sl) (f b : Int) (A2 : Option Addr) (m c2 : Nat) (l : List UInt8) (W : World) (hR : SlR B W s M) (hE : LaidE S W) (hg : 0 < B) (hm : l.length = m) (hr : RdB W.heap.size W A2 l) (hp : M.pend.length ≤ 1000000) (_hm2 : m ≤ 1000000000) :
    Calls Tryd.prog 11 #[.pointer (some ⟨s, 0, none⟩), .int .i64 f, .int .i64 b, .slice A2 m c2] W fun e W' => e = .returned (.int .i64 (wrCode M f b l)) ∧ SlR B W' s (wrM M f b l) ∧ StK B W W' := by
  have HR := Lib.hid hR
  have HE := Lib.hid hE
  have HS := Lib.hid hr
  have hBW : B ≤ W.heap.size := by
    obtain ⟨_, _, _, _, _, _, _, _, _, _, _, _, _, _, _, _, h⟩ := hR
    exact h
  clear hR hE hr
  go_enter Tryd.func11, Tryd.ntmps11
  go_upto_region 1 with fail
  refine wp_region_lit ?_
  refine fl_start ?_
  generalize ha : Act.mk _ _ = a0
  have hn : a0.tmps.size = 46 := by rw [← ha]; kernel_rfl
  have h0 : (fr a0 []).eval (.tmp 0) = .pointer (some ⟨s, 0, none⟩) := by rw [← ha]; kernel_rfl
  refine fl_know hn rfl h0 ?_
  clear h0
  have h1 : (fr a0 [(0, true, .pointer (some ⟨s, 0, none⟩))]).eval (.tmp 1) = .int .i64 f := by rw [← ha]; kernel_rfl
  refine fl_know hn rfl h1 ?_
  clear h1
  have h2 : (fr a0 [(1, true, .int .i64 f), (0, true, .pointer (some ⟨s, 0, none⟩))]).eval (.tmp 2) = .int .i64 b := by rw [← ha]; kernel_rfl
  refine fl_know hn rfl h2 ?_
  clear h2
  have h3 : (fr a0 [(2, true, .int .i64 b), (1, true, .int .i64 f), (0, true, .pointer (some ⟨s, 0, none⟩))]).eval (.tmp 3) = .slice A2 m c2 := by rw [← ha]; kernel_rfl
  refine fl_know hn rfl h3 ?_
  clear h3
  refine g_mv hn ?_
  refine g_mv hn ?_
  refine g_c2x enters_isBlock hn (R := fun v w2 => v = .bool (placeB f b) ∧ w2 = W) ((isBlock_any f b W).mono fun _ _ ⟨he, hw⟩ => ⟨_, he, rfl, hw⟩) ?_
  rintro v w2 ⟨rfl, rfl⟩
  repeat first | refine g_mv hn ?_ | refine g_as hn ?_ | refine g_fd hn ?_ | refine g_ld hn ?_ | refine g_nc hn ?_ | refine g_nt hn ?_ | refine g_an hn ?_ | refine g_or hn ?_ | refine g_ln hn ?_ | refine g_ex hn ?_ | refine g_neq2 hn ?_ | refine g_neq hn ?_ | refine g_eql2 hn ?_ | refine g_eql hn ?_ | refine g_leq2 hn ?_ | refine g_leq hn ?_ | refine g_lss2 hn ?_ | refine g_lss hn ?_ | refine g_gtr2 hn ?_ | refine g_gtr hn ?_ | refine g_geq2 hn ?_ | refine g_geq hn ?_ | refine g_b0 hn ?_ | refine g_bn hn ?_ | refine g_bc hn ?_ | refine g_cv hn ?_ | refine g_ac hn ?_ | refine g_mc hn ?_
  refine fl_endb (c := !okW f b l) (by unfold okW; rw [le64, hm]; cases placeB f b <;> simp) ?_
  clear hn 
  subst ha
  dsimp only [fr, cnd, Act.put, cond_true]
  simp only [List.setIfInBounds_toArray, List.set_cons_zero, List.set_cons_succ]
  cases hok : okW f b l with
  | false =>
    have R : Hid (wrCode M f b l = 1 ∧ wrM M f b l = M) := by
      show _ ∧ _
      unfold wrCode wrM
      rw [hok]
      exact ⟨rfl, rfl⟩
    clear hok
    go_wp2_with fail
    go_ret
    exact ⟨by rw [R.out.1]; rfl, by rw [R.out.2]; exact HR.out, StK.refl _ _⟩
  | true =>
  have HOK := Lib.hid hok
  clear hok
  obtain ⟨tg, d1, d2, f1, f2, A, n, c, hX, hsB, hD1, hD2, hO, hP, hb0, hb1, _⟩ := HR.out
  have hl64 : l.length ≤ 64 := by
    have := HOK.out
    unfold okW at this
    rw [Bool.and_eq_true, decide_eq_true_eq] at this
    exact this.2
  have hsg : 0 < s := Nat.lt_of_lt_of_le hg hsB
  have cg : ∀ W, LaidE S W → (Instr.loadAt 57 (.pointer (some ⟨0, 0, none⟩))).run Tryd.prog W = .ok (.iface 93 (.pointer (some S))) W := fun W h => ld_err h
  go_upto_region 3 with fail
  refine fh_start (S := (fun W => LaidE S W)) (by kernel_rfl) (HE.out) (fun hS => ?_)
  generalize ha : Act.mk _ _ = a0
  have hn : a0.tmps.size = 46 := by rw [← ha]; kernel_rfl
  have h0 : (fr a0 []).eval (.tmp 0) = .pointer (some ⟨s, 0, none⟩) := by rw [← ha]; kernel_rfl
  refine fh_know hn rfl h0 ?_
  clear h0
  refine h_mv 0 hn hS ?_
  refine h_lg 2 hn hS ?_ (u := .pointer (some ⟨0, 0, none⟩))
  refine h_c1 1 enters_step hn (step_any S s d1 d2 A n c M.armed M.budget M.dead (World.drew w2) hX hS hsg hb0 hb1) ?_
  rintro v w3 ⟨rfl, ho3, hX3⟩
  replace hS := LaidE.only hS ho3 hsg
  refine ⟨hS, ?_⟩
  refine h_c2 3 enters_Is hn (isErr_any S M.armed M.budget w3) ?_
  rintro v w4 ⟨rfl, rfl⟩
  refine ⟨hS, ?_⟩
  refine fh_end (by kernel_rfl) ?_
  clear hn cg
  subst ha
  dsimp only [fr, cnd, Act.put, cond_true]
  simp only [List.setIfInBounds_toArray, List.set_cons_zero, List.set_cons_succ]
  have hE3 := hS
  have ho3' : Only1 s w2 w4 := ⟨ho3.os, ho3.tape, ho3.output, ho3.size, ho3.block⟩
  have hD1' := hD1.only hX ho3'
  have hD2' := hD2.only hX ho3'
  have hO' := hO.only hX ho3' (by decide)
  have hsz4 : w4.heap.size = w2.heap.size := ho3'.size
  have hK4 : StK B w2 w4 := ⟨ho3'.below hsB, fun x cs t fr hx h1 _ => ho3'.block x (by
    rintro rfl
    unfold Blk at hX
    rw [hx] at hX
    injection hX with hX
    injection hX with _ hX _
    exact h1 hX)⟩
  have hXs := hX
  have hOw := hO
  clear ho3 hD1 hD2 hO hS hX
  cases hsp : spentB M.armed M.budget with
  | true =>
    have R : Hid (wrCode M f b l = 7 ∧ SlR B w4 s (wrM M f b l)) := by
      show _ ∧ _
      unfold wrCode wrM Sl.spent
      rw [HOK.out, hsp]
      refine ⟨rfl, tg, d1, d2, f1, f2, A, n, c, ?_, hsB, hD1', hD2', hO', hP, hb0, hb1, by rw [hsz4]; exact hBW⟩
      have e1 : stB M.armed M.budget = M.budget := by
        unfold spentB at hsp
        rw [Bool.and_eq_true, beq_iff_eq] at hsp
        exact if_neg fun h => h.2 hsp.2
      have e2 : stD M.armed M.budget M.dead = true := by unfold stD; rw [hsp]; rfl
      rw [e1, e2] at hX3
      exact hX3
    have HK := Lib.hid hK4
    clear hsp hX3 hD1' hD2' hO' hK4 hE3
    go_wp2_with fail
    go_ret
    exact ⟨by rw [R.out.1]; rfl, R.out.2, HK.out⟩
  | false =>
  have e2 : stD M.armed M.budget M.dead = M.dead := by unfold stD; rw [hsp]; rfl
  have hbu : 0 ≤ stB M.armed M.budget ∧ stB M.armed M.budget ≤ 1099511627776 := by
    unfold stB
    split <;> omega
  rw [e2] at hX3
  have HSP := Lib.hid hsp
  clear hsp e2
  go_upto_region 5 with fail
  refine wp_region_lit ?_
  refine fl_start ?_
  generalize ha : Act.mk _ _ = a0
  have hn : a0.tmps.size = 46 := by rw [← ha]; kernel_rfl
  have h1 : (fr a0 []).eval (.tmp 1) = .int .i64 f := by rw [← ha]; kernel_rfl
  refine fl_know hn rfl h1 ?_
  clear h1
  have h2 : (fr a0 [(1, true, .int .i64 f)]).eval (.tmp 2) = .int .i64 b := by rw [← ha]; kernel_rfl
  refine fl_know hn rfl h2 ?_
  clear h2
  repeat first | refine g_mv hn ?_ | refine g_as hn ?_ | refine g_fd hn ?_ | refine g_ld hn ?_ | refine g_nc hn ?_ | refine g_nt hn ?_ | refine g_an hn ?_ | refine g_or hn ?_ | refine g_ln hn ?_ | refine g_ex hn ?_ | refine g_neq2 hn ?_ | refine g_neq hn ?_ | refine g_eql2 hn ?_ | refine g_eql hn ?_ | refine g_leq2 hn ?_ | refine g_leq hn ?_ | refine g_lss2 hn ?_ | refine g_lss hn ?_ | refine g_gtr2 hn ?_ | refine g_gtr hn ?_ | refine g_geq2 hn ?_ | refine g_geq hn ?_ | refine g_b0 hn ?_ | refine g_bn hn ?_ | refine g_bc hn ?_ | refine g_cv hn ?_ | refine g_ac hn ?_ | refine g_mc hn ?_
  refine g_bd hn ?_ (qs := #[(0, .int .i64 f), (1, .int .i64 b)]) (v := .agg (Pw.cells ⟨f, b, z64⟩)) (hx := bd_pw f b w4) (hp := fun hk _ => by simp only [List.map_toArray, List.map_cons, List.map_nil, lk_at hk (i := 23) rfl (fun _ => rfl) rfl, lk_at hk (i := 24) rfl (fun _ => rfl) rfl])
  refine g_w hn (w2 := w4.alloc (.cells (Pw.cells ⟨0, 0, z64⟩) 61)) (v := .pointer (some ⟨w4.heap.size, 0, none⟩)) (fun _ => by unfold execOp; dsimp only; rw [Sem.run_bind, run_al]; rfl) ?_
  have hY5 := blk_new w4 (Pw.cells ⟨0, 0, z64⟩) 61
  have hB5 := b0 w4 (.cells (Pw.cells ⟨0, 0, z64⟩) 61)
  have hX5 := hX3.alloc (.cells (Pw.cells ⟨0, 0, z64⟩) 61)
  have hsp5 : s < w4.heap.size := hX3.lt
  generalize w4.alloc (.cells (Pw.cells ⟨0, 0, z64⟩) 61) = w5 at hY5 hB5 hX5 ⊢
  generalize hp4 : w4.heap.size = p at hY5 hB5 hsp5 ⊢
  refine g_str hY5 ?_ (hs := by rw [pw_size rfl, pw_size rfl]) (hi := by rw [pw_size rfl]; kernel_rfl) (h1 := pw_one _)
  intro w6 ho6 hY6
  refine fl_end ?_
  clear hn
  subst ha
  dsimp only [fr, cnd, Act.put, cond_true]
  simp only [List.setIfInBounds_toArray, List.set_cons_zero, List.set_cons_succ]
  have hf2 := pw_f2 w6 p
  have hsl := sl_arr w6 p
  have hb6 : Below p w4 w6 := hB5.trans (ho6.below (Nat.le_refl p))
  have hX6 := hX5.only ho6 (by omega)
  have hrd6 : RdB p w6 A2 l := (((HS.out.sl hXs ho3').keep hb6 (by omega))).more (by omega)
  obtain ⟨vc, w7, hrun7, ho7, hY7⟩ := copy_pw w6 p f b l A2 m c2 _ hY6 hm (by rw [← hm]; exact hl64) hrd6
  go_upto_region 6 with fail
  refine wp_region_lit ?_
  refine fl_start ?_
  generalize ha : Act.mk _ _ = a0
  have hn : a0.tmps.size = 46 := by rw [← ha]; kernel_rfl
  have h9 : (fr a0 []).eval (.tmp 9) = .pointer (some ⟨p, 0, none⟩) := by rw [← ha]; kernel_rfl
  refine fl_know hn rfl h9 ?_
  clear h9
  have h3 : (fr a0 [(9, true, .pointer (some ⟨p, 0, none⟩))]).eval (.tmp 3) = .slice A2 m c2 := by rw [← ha]; kernel_rfl
  refine fl_know hn rfl h3 ?_
  clear h3
  repeat first | refine g_mv hn ?_ | refine g_as hn ?_ | refine g_sl hn ?_ | refine g_fd hn ?_ | refine g_ld hn ?_ | refine g_nc hn ?_ | refine g_nt hn ?_ | refine g_an hn ?_ | refine g_or hn ?_ | refine g_ln hn ?_ | refine g_ex hn ?_ | refine g_neq2 hn ?_ | refine g_neq hn ?_ | refine g_eql2 hn ?_ | refine g_eql hn ?_ | refine g_leq2 hn ?_ | refine g_leq hn ?_ | refine g_lss2 hn ?_ | refine g_lss hn ?_ | refine g_gtr2 hn ?_ | refine g_gtr hn ?_ | refine g_geq2 hn ?_ | refine g_geq hn ?_ | refine g_b0 hn ?_ | refine g_bn hn ?_ | refine g_bc hn ?_ | refine g_cv hn ?_ | refine g_ac hn ?_ | refine g_mc hn ?_
  refine fl_opw hn rfl (d := 29) (v := vc) (w2 := w7) rfl rfl (fun hk => x_cp (lk_at hk (i := 27) rfl (fun _ => rfl) rfl) (lk_at hk (i := 28) rfl (fun _ => rfl) rfl) hrun7) ?_
  refine fl_end ?_
  clear hn
  subst ha
  dsimp only [fr, cnd, Act.put, cond_true]
  simp only [List.setIfInBounds_toArray, List.set_cons_zero, List.set_cons_succ]
  clear hf2 hsl hrun7 hrd6 hY5 hY6 hX5 hB5
  have hb7 : Below p w4 w7 := hb6.trans (ho7.below (Nat.le_refl p))
  have hX7 := hX6.only ho7 (by omega)
  have hb7' : Below w4.heap.size w4 w7 := by rw [hp4]; exact hb7
  have hD17 := hD1'.below hb7'
  have hD27 := hD2'.below hb7'
  have hO7 := hO'.keep hb7'
  have hBp : B ≤ p := by omega
  have hsz7 := hb7.size
  clear ho6 hb6 hX6 ho7 hD1' hD2' hO'
  generalize hM7 : (⟨f, b, padL l⟩ : Pw) = x at hY7
  have hx64 : x.l.length = 64 := by rw [← hM7]; exact padL_len hl64
  have hB7 : B ≤ w7.heap.size := by omega
  have c1 : ∀ W, (Blk W s (slI d1 d2 A n c M.armed (stB M.armed M.budget) M.dead) 44 ∧ Blk W p x.cells 61) → (Instr.fieldAt 44 (.pointer (some ⟨s, 0, none⟩)) 1).run Tryd.prog W = .ok (.pointer (some ⟨s, 1, none⟩)) W := fun W _ => sl_a1 W s
  have c3 : ∀ W, (Blk W s (slI d1 d2 A n c M.armed (stB M.armed M.budget) M.dead) 44 ∧ Blk W p x.cells 61) → (Instr.loadAt 41 (.pointer (some ⟨s, 1, none⟩))).run Tryd.prog W = .ok (.map (some d2)) W := fun W h => sl_l1 h.1
  have c4 : ∀ W, (Blk W s (slI d1 d2 A n c M.armed (stB M.armed M.budget) M.dead) 44 ∧ Blk W p x.cells 61) → (Instr.loadAt 61 (.pointer (some ⟨p, 0, none⟩))).run Tryd.prog W = .ok (.agg x.cells) W := fun W h => pw_la h.2 hx64
  go_upto_region 7 with fail
  refine fh_start (S := (fun W => Blk W s (slI d1 d2 A n c M.armed (stB M.armed M.budget) M.dead) 44 ∧ Blk W p x.cells 61)) (by kernel_rfl) (⟨hX7, hY7⟩) (fun hS => ?_)
  generalize ha : Act.mk _ _ = a0
  have hn : a0.tmps.size = 46 := by rw [← ha]; kernel_rfl
  have h0 : (fr a0 []).eval (.tmp 0) = .pointer (some ⟨s, 0, none⟩) := by rw [← ha]; kernel_rfl
  refine fh_know hn rfl h0 ?_
  clear h0
  have h9 : (fr a0 [(0, true, .pointer (some ⟨s, 0, none⟩))]).eval (.tmp 9) = .pointer (some ⟨p, 0, none⟩) := by rw [← ha]; kernel_rfl
  refine fh_know hn rfl h9 ?_
  clear h9
  first | refine h_mv 0 hn hS ?_ | refine h_as 0 hn hS ?_ | refine h_fd 0 hn hS ?_ | refine h_ld 0 hn hS ?_ | refine h_nc 0 hn hS ?_ | refine h_cv 0 hn hS ?_ | refine h_ex 0 hn hS ?_ | refine h_nt 0 hn hS ?_ | refine h_ix 0 hn hS ?_ | refine h_lk 0 hn hS ?_
  first | refine h_mv 1 hn hS ?_ | refine h_as 1 hn hS ?_ | refine h_fd 1 hn hS ?_ | refine h_ld 1 hn hS ?_ | refine h_nc 1 hn hS ?_ | refine h_cv 1 hn hS ?_ | refine h_ex 1 hn hS ?_ | refine h_nt 1 hn hS ?_ | refine h_ix 1 hn hS ?_ | refine h_lk 1 hn hS ?_
  first | refine h_mv 2 hn hS ?_ | refine h_as 2 hn hS ?_ | refine h_fd 2 hn hS ?_ | refine h_ld 2 hn hS ?_ | refine h_nc 2 hn hS ?_ | refine h_cv 2 hn hS ?_ | refine h_ex 2 hn hS ?_ | refine h_nt 2 hn hS ?_ | refine h_ix 2 hn hS ?_ | refine h_lk 2 hn hS ?_
  first | refine h_mv 3 hn hS ?_ | refine h_as 3 hn hS ?_ | refine h_fd 3 hn hS ?_ | refine h_ld 3 hn hS ?_ | refine h_nc 3 hn hS ?_ | refine h_cv 3 hn hS ?_ | refine h_ex 3 hn hS ?_ | refine h_nt 3 hn hS ?_ | refine h_ix 3 hn hS ?_ | refine h_lk 3 hn hS ?_
  first | refine h_mv 4 hn hS ?_ | refine h_as 4 hn hS ?_ | refine h_fd 4 hn hS ?_ | refine h_ld 4 hn hS ?_ | refine h_nc 4 hn hS ?_ | refine h_cv 4 hn hS ?_ | refine h_ex 4 hn hS ?_ | refine h_nt 4 hn hS ?_ | refine h_ix 4 hn hS ?_ | refine h_lk 4 hn hS ?_
  refine h_c2 5 enters_do hn (R := fun v w9 => v = .tuple #[] ∧ DoR B tg 1 d2 M.seen x (World.drew w7) w9) ((do_any B tg 1 d2 M.seen f2 x (World.drew w7) (hD27.keep (fun _ _ => rfl) fun _ _ _ => rfl) hx64 hB7).mono fun _ _ ⟨he, hr⟩ => ⟨_, he, rfl, hr⟩) ?_
  rintro v w8 ⟨rfl, tg', f2', htg, hD28, hK8⟩
  have hS8 : Blk w8 s (slI d1 d2 A n c M.armed (stB M.armed M.budget) M.dead) 44 ∧ Blk w8 p x.cells 61 := ⟨hK8.blk hX7, hK8.blk hY7⟩
  refine ⟨hS8, ?_⟩
  refine fh_end (by kernel_rfl) ?_
  clear hn c1 c3 c4
  subst ha
  dsimp only [fr, cnd, Act.put, cond_true]
  simp only [List.setIfInBounds_toArray, List.set_cons_zero, List.set_cons_succ]
  clear hS
  have hD18 : DkR B tg' 0 w8 d1 M.kept f1 := hD17.keep (fun y hy => htg y hy) fun y hy ht => hK8.oth y hy (by rcases ht with h | h <;> omega) (by rcases ht with h | h <;> omega)
  have hO8 := hO7.same (W' := w8) fun y cs hy => hK8.cel y cs _ _ hy
  have hK8' : StK B w2 (World.drew w8) := (hK4.trans ⟨hb7'.mono (by rw [hp4]; exact hBp), fun y cs t fr hy _ _ => hb7'.block y (Array.getElem?_eq_some_iff.1 hy).1⟩).trans ⟨⟨hK8.bel.os, hK8.bel.tape, hK8.bel.output, hK8.bel.size, hK8.bel.block⟩, fun y cs t fr hy _ _ => hK8.cel y cs t fr hy⟩
  have hD18' : DkR B tg' 0 (World.drew w8) d1 M.kept f1 := hD18.keep (fun _ _ => rfl) fun _ _ _ => rfl
  have hD28' : DkR B tg' 1 (World.drew w8) d2 (putD M.seen x) f2' := hD28.keep (fun _ _ => rfl) fun _ _ _ => rfl
  have hO8' : OwnX 61 66 B (World.drew w8) A n c (M.pend.map Pw.cells) := hO8.same fun _ _ _ => rfl
  have hX8' : Blk (World.drew w8) s (slI d1 d2 A n c M.armed (stB M.armed M.budget) M.dead) 44 := hS8.1
  have hY8' : Blk (World.drew w8) p x.cells 61 := hS8.2
  have hB8 : B ≤ (World.drew w8).heap.size := Nat.le_trans hB7 hK8.bel.size
  have hlen := hO8'.len
  have hnn : n ≤ 1000000 := by rw [← hlen, List.length_map]; exact hp
  obtain ⟨i0, hi0, hz0, hs0, hy0⟩ := info_parts pw_info
  obtain ⟨A', c', w10, hrunA, hO10, hg10⟩ := run_apG (P := Tryd.prog) (ty := 42) (d := 1) (ad := ⟨(World.drew w8).heap.size, 0, none⟩) ((World.drew w8).alloc (.cells x.cells 61)) Tryd.underlying42 Tryd.underlying42 hi0 hz0 hs0 hy0 (pw_size rfl) (by omega) (by omega) (hO8'.keep (b0 _ _)) (pw_size hx64) (fun u hu => (Array.all_eq_true_iff_forall_mem.1 (pw_one x)) u (by simpa using hu)) (newX (World.drew w8) x.cells 61) (by omega) (by have := (b0 (World.drew w8) (.cells x.cells 61)).size; omega)
  obtain ⟨hX10, hSl, hStk⟩ := wrote_fin hsB hX8' hD18' hD28' hO8' hK8' hP hx64 hbu hB8 hg10 hO10
  have hX9 := hX8'.alloc (.cells x.cells 61)
  have hY9 := hY8'.alloc (.cells x.cells 61)
  have hpl : p < (World.drew w8).heap.size := hY8'.lt
  have hY10 : Blk w10 p x.cells 61 := (hg10.block p (by have := (b0 (World.drew w8) (.cells x.cells 61)).size; omega) (by
    intro e
    cases hA : A with
    | none => rw [hA] at e; cases e
    | some a =>
      rw [hA] at e
      injection e with e
      have e' : a.block = p := e.symm
      have := (hOw.blk hA).2
      omega)).trans hY9
  have hY11 := hY10.only (only_cell w10 s 2 (.slice A' (n + 1) c')) (by omega)
  have hX11 : Blk (w10.setCell ⟨s, 2, none⟩ (.slice A' (n + 1) c')) s (slI d1 d2 A' (n + 1) c' M.armed (stB M.armed M.budget) M.dead) 44 := hX10.set 2 _
  have hbs := run_bs (World.drew w8) x hx64
  have hR : Hid (wrCode M f b l = 0 ∧ wrM M f b l = M.wrote x) := by
    show _ ∧ _
    unfold wrCode wrM Sl.spent
    rw [HOK.out, HSP.out, hM7]
    exact ⟨rfl, rfl⟩
  have HSl := Lib.hid hSl
  have HStk := Lib.hid hStk
  have c1 : ∀ W, ((∃ (A9 : Option Addr) (n9 c9 : Nat), Blk W s (slI d1 d2 A9 n9 c9 M.armed (stB M.armed M.budget) M.dead) 44) ∧ Blk W p x.cells 61) → (Instr.fieldAt 44 (.pointer (some ⟨s, 0, none⟩)) 2).run Tryd.prog W = .ok (.pointer (some ⟨s, 2, none⟩)) W := fun W _ => sl_a2 W s
  have c4 : ∀ W, ((∃ (A9 : Option Addr) (n9 c9 : Nat), Blk W s (slI d1 d2 A9 n9 c9 M.armed (stB M.armed M.budget) M.dead) 44) ∧ Blk W p x.cells 61) → (Instr.loadAt 61 (.pointer (some ⟨p, 0, none⟩))).run Tryd.prog W = .ok (.agg x.cells) W := fun W h => pw_la h.2 hx64
  clear hSl hStk hK8' hD18' hD28' hO8' hD18 hD28 hO8 hK8 hD17 hD27 hO7 hK4 hb7 hb7'
  go_upto_region 8 with fail
  refine fh_start (S := (fun W => (∃ (A9 : Option Addr) (n9 c9 : Nat), Blk W s (slI d1 d2 A9 n9 c9 M.armed (stB M.armed M.budget) M.dead) 44) ∧ Blk W p x.cells 61)) (by kernel_rfl) (⟨⟨A, n, c, hX8'⟩, hY8'⟩) (fun hS => ?_)
  generalize ha : Act.mk _ _ = a0
  have hn : a0.tmps.size = 46 := by rw [← ha]; kernel_rfl
  have h0 : (fr a0 []).eval (.tmp 0) = .pointer (some ⟨s, 0, none⟩) := by rw [← ha]; kernel_rfl
  refine fh_know hn rfl h0 ?_
  clear h0
  have h9 : (fr a0 [(0, true, .pointer (some ⟨s, 0, none⟩))]).eval (.tmp 9) = .pointer (some ⟨p, 0, none⟩) := by rw [← ha]; kernel_rfl
  refine fh_know hn rfl h9 ?_
  clear h9
  first | refine h_mv 0 hn hS ?_ | refine h_as 0 hn hS ?_ | refine h_fd 0 hn hS ?_ | refine h_ld 0 hn hS ?_ | refine h_nc 0 hn hS ?_ | refine h_cv 0 hn hS ?_ | refine h_ex 0 hn hS ?_ | refine h_nt 0 hn hS ?_ | refine h_ix 0 hn hS ?_ | refine h_lk 0 hn hS ?_
  first | refine h_mv 1 hn hS ?_ | refine h_as 1 hn hS ?_ | refine h_fd 1 hn hS ?_ | refine h_ld 1 hn hS ?_ | refine h_nc 1 hn hS ?_ | refine h_cv 1 hn hS ?_ | refine h_ex 1 hn hS ?_ | refine h_nt 1 hn hS ?_ | refine h_ix 1 hn hS ?_ | refine h_lk 1 hn hS ?_
  first | refine h_mv 2 hn hS ?_ | refine h_as 2 hn hS ?_ | refine h_fd 2 hn hS ?_ | refine h_ld 2 hn hS ?_ | refine h_nc 2 hn hS ?_ | refine h_cv 2 hn hS ?_ | refine h_ex 2 hn hS ?_ | refine h_nt 2 hn hS ?_ | refine h_ix 2 hn hS ?_ | refine h_lk 2 hn hS ?_
  first | refine h_mv 3 hn hS ?_ | refine h_as 3 hn hS ?_ | refine h_fd 3 hn hS ?_ | refine h_ld 3 hn hS ?_ | refine h_nc 3 hn hS ?_ | refine h_cv 3 hn hS ?_ | refine h_ex 3 hn hS ?_ | refine h_nt 3 hn hS ?_ | refine h_ix 3 hn hS ?_ | refine h_lk 3 hn hS ?_
  first | refine h_mv 5 hn hS ?_ | refine h_as 5 hn hS ?_ | refine h_fd 5 hn hS ?_ | refine h_ld 5 hn hS ?_ | refine h_nc 5 hn hS ?_ | refine h_cv 5 hn hS ?_ | refine h_ex 5 hn hS ?_ | refine h_nt 5 hn hS ?_ | refine h_ix 5 hn hS ?_ | refine h_lk 5 hn hS ?_
  refine fh_two (i := 4) (j := 6) (by kernel_rfl) ?_ ?_
  · refine one_valx (d := 40) (v := .slice A n c) (w2 := World.drew w8) hn rfl (fun hk => x_ld (lk_at hk (i := 39) rfl (fun _ => rfl) rfl) (sl_l2 hX8')) ⟨⟨A, n, c, hX8'⟩, hY8'⟩ ?_ rfl rfl rfl
    refine fh_valx 6 hn (d := 42) rfl (fun hk => x_bs (lk_at hk (i := 41) rfl (fun _ => rfl) rfl) hbs) ⟨⟨A, n, c, hX9⟩, hY9⟩ ?_ rfl rfl (by kernel_rfl) rfl
    refine fh_valx 7 (d := 43) hn rfl (fun hk => x_ap (lk_at hk (i := 40) rfl (fun _ => rfl) rfl) (lk_at hk (i := 42) rfl (fun _ => rfl) rfl) hrunA) ⟨⟨A, n, c, hX10⟩, hY10⟩ ?_ rfl rfl (by kernel_rfl) rfl
    refine h_nc 8 hn ⟨⟨A, n, c, hX10⟩, hY10⟩ ?_
    refine h_fd 9 hn ⟨⟨A, n, c, hX10⟩, hY10⟩ ?_
    refine fh_skip 10 rfl (fun hk => run_st (lk_at hk (i := 45) rfl (fun _ => rfl) rfl) (lk_at hk (i := 43) rfl (fun _ => rfl) rfl) (st_slP hX10 (by simp) A' (n + 1) c')) ⟨⟨A', n + 1, c', hX11⟩, hY11⟩ ?_ rfl (by kernel_rfl) rfl
    refine fh_end (by kernel_rfl) ?_
    clear hn c1 c4
    subst ha
    dsimp only [fr, cnd, Act.put, cond_true]
    simp only [List.setIfInBounds_toArray, List.set_cons_zero, List.set_cons_succ]
    go_wp2_with fail
    go_ret
    exact ⟨by rw [hR.out.1]; rfl, by rw [hR.out.2]; exact HSl.out, HStk.out⟩
  · refine one_valx (d := 42) hn rfl (fun hk => x_bs (lk_at hk (i := 41) rfl (fun _ => rfl) rfl) hbs) ⟨⟨A, n, c, hX9⟩, hY9⟩ ?_ rfl rfl rfl
    refine fh_valx 4 (d := 40) (v := .slice A n c) hn rfl (fun hk => x_ld (lk_at hk (i := 39) rfl (fun _ => rfl) rfl) (sl_l2 hX9)) ⟨⟨A, n, c, hX9⟩, hY9⟩ ?_ rfl rfl (by kernel_rfl) rfl
    refine fh_valx 7 (d := 43) hn rfl (fun hk => x_ap (lk_at hk (i := 40) rfl (fun _ => rfl) rfl) (lk_at hk (i := 42) rfl (fun _ => rfl) rfl) hrunA) ⟨⟨A, n, c, hX10⟩, hY10⟩ ?_ rfl rfl (by kernel_rfl) rfl
    refine h_nc 8 hn ⟨⟨A, n, c, hX10⟩, hY10⟩ ?_
    refine h_fd 9 hn ⟨⟨A, n, c, hX10⟩, hY10⟩ ?_
    refine fh_skip 10 rfl (fun hk => run_st (lk_at hk (i := 45) rfl (fun _ => rfl) rfl) (lk_at hk (i := 43) rfl (fun _ => rfl) rfl) (st_slP hX10 (by simp) A' (n + 1) c')) ⟨⟨A', n + 1, c', hX11⟩, hY11⟩ ?_ rfl (by kernel_rfl) rfl
    refine fh_end (by kernel_rfl) ?_
    clear hn c1 c4
    subst ha
    dsimp only [fr, cnd, Act.put, cond_true]
    simp only [List.setIfInBounds_toArray, List.set_cons_zero, List.set_cons_succ]
    go_wp2_with fail
    go_ret
    exact ⟨by rw [hR.out.1]; rfl, by rw [hR.out.2]; exact HSl.out, HStk.out⟩
end Go.Proofs.YtjbmhbnlanbbkaaDoor
