/-
  WHAT IS PROVED: skies: By; the document's Below, By. Conditions: those typed in each theorem. · rows of any kind of element, by XFast's laws: a slice of one element, append onto a row of the call's own. Conditions: those typed in each theorem.
-/
import Derived.Test.YtkfhkfddhijkcaaWxB
import Derived.Test.YtkfhkfddhijkcaaStrs
import Derived.Test.YtkfhkfddhijkcaaApM
import Derived.Great.BuildSlice
namespace Go.Proofs.Ytkfhkfddhijkcaa
open Go.RowKit

theorem en_spinney_weather_Sky_By_1 : ∀ args w, (callFunc 80 args).run Try.prog w = .ok (.enter 80 args) w := enters_of Try.func80 (by kernel_rfl) rfl
theorem en_slices_IndexFunc_int_int : ∀ args w, (callFunc 79 args).run Try.prog w = .ok (.enter 79 args) w := enters_of Try.func79 (by kernel_rfl) rfl
theorem en_spinney_weather_Sky_By : ∀ args w, (callFunc 33 args).run Try.prog w = .ok (.enter 33 args) w := enters_of Try.func33 (by kernel_rfl) rfl
theorem en_spinney_spinneyref29_By : ∀ args w, (callFunc 32 args).run Try.prog w = .ok (.enter 32 args) w := enters_of Try.func32 (by kernel_rfl) rfl

theorem callf_isC {w : World} {f : FuncId} (he : ∀ args w, (callFunc f args).run Try.prog w = .ok (.enter f args) w) (d : Option Tmp) (x y : Operand) (ts : Array TypeId) (ty : TypeId) (p : String) (af : Array Edge) (gd : Option (Nat × Bool)) (ρ : Operand → Value) (v : Value) (lb : Array Value) (h0 : ρ x = .func (.func f) #[] lb) (h1 : ρ y = v) : (execOp ρ ⟨d, .call { callee := .value x, args := #[y], argTypes := ts }, ty, p, af, gd⟩).run Try.prog w = .ok (.enter f (#[v] ++ lb)) w := by
  unfold execOp
  dsimp only
  go_simp
theorem g_cfC {l : List Oper} {Q : Exit → Act → World → Prop} {rest : List Oper} {a0 : Act} {L : List (Nat × Bool × Value)} {w : World} {f : FuncId} {i j d n : Nat} {v : Value} {lb : Array Value} {R : Value → World → Prop} {ts : Array TypeId} {ty : TypeId} {p : String} {af : Array Edge} {gd : Option (Nat × Bool)} (he : ∀ args w, (callFunc f args).run Try.prog w = .ok (.enter f args) w) (hn : a0.tmps.size = n) (hc : Calls Try.prog f (#[v] ++ lb) w fun e w' => ∃ v, e = .returned v ∧ R v w') (h : ∀ v w2, R v w2 → FL Try.prog l Q rest a0 ((d, true, v) :: L) w2) (hd : Nat.blt d n = true := by rfl) (hw : wtG l L gd = some true := by rfl) (hl : lk L i = some (true, .func (.func f) #[] lb) := by rfl) (hl2 : lk L j = some (true, v) := by rfl) : FL Try.prog l Q (⟨some d, .call { callee := .value (.tmp i), args := #[.tmp j], argTypes := ts }, ty, p, af, gd⟩ :: rest) a0 L w :=
  fl_callx hn rfl hd hw (fun hk => callf_isC he _ _ _ _ _ _ _ _ _ v lb (lk_at hk hl (fun _ => rfl) rfl) (lk_at hk hl2 (fun _ => rfl) rfl)) hc h

/-- Reads as these whole numbers. -/
def RdI (B : Nat) (W : World) (A : Option Addr) (l : List Int) : Prop := ∀ k x, l[k]? = some x → ∃ ad, A = some ad ∧ ad.block < B ∧ W.cell? (ad.add k) = some (.int .i64 x)
theorem RdI.nil (B : Nat) (W : World) (A : Option Addr) : RdI B W A [] := fun k x h => by simp at h
theorem RdI.exc {B g : Nat} {W W' : World} {A : Option Addr} {l : List Int} (h : RdI B W A l) (hb : Exc g W W') (hB : B ≤ W.heap.size) (hg : B ≤ g) : RdI B W' A l := fun k x hx => by
  obtain ⟨ad, e, h1, h2⟩ := h k x hx
  refine ⟨ad, e, h1, ?_⟩
  have hbe : (hb.below (B := B) hg hB) = (hb.below (B := B) hg hB) := rfl
  rw [(hb.below (B := B) hg hB).cell (by rw [add_block]; exact h1)]
  exact h2
theorem RdI.keep {B C : Nat} {W W' : World} {A : Option Addr} {l : List Int} (h : RdI B W A l) (hb : Below C W W') (hBC : B ≤ C) : RdI B W' A l := fun k x hx => by
  obtain ⟨ad, e, h1, h2⟩ := h k x hx
  exact ⟨ad, e, h1, by rw [hb.cell (by rw [add_block]; omega)]; exact h2⟩
theorem iix (W : World) (ad : Addr) (n c k : Nat) (h : k < n) : (Instr.indexAt 55 (.slice (some ad) n c) (.int .i64 (k : Int))).run Try.prog W = .ok (.pointer (some (ad.add k))) W := by
  have h1 : (0 : Int) ≤ (k : Int) := by omega
  have h2 : (k : Int) < (n : Int) := by omega
  go_simp
theorem wrapS {y : Int} (h : -9223372036854775808 ≤ y ∧ y ≤ 9223372036854775807) : IntKind.i64.wrap y = y := by
  unfold IntKind.wrap
  simp [IntKind.bits, IntKind.signed]
  omega
set_option maxRecDepth 100000 in
set_option maxHeartbeats 400000 in
theorem by1_any (k x : Int) (q : Nat) (w : World) (hX : Blk w q #[.int .i64 k] 3) (hk : -1000000 ≤ k ∧ k ≤ 1000000) (hx : 0 ≤ x ∧ x ≤ 1000) : Calls Try.prog 80 #[.int .i64 x, .pointer (some ⟨q, 0, none⟩)] w fun e w' => e = .returned (.bool (decide (k - x < 0))) ∧ Blk w' q #[.int .i64 (k - x)] 3 ∧ Only1 q w w' := by
  have wr : IntKind.i64.wrap (k - x) = k - x := wrapS (by omega)
  have hY := hX.set 0 (.int .i64 (k - x))
  have ho := only_cell w q 0 (.int .i64 (k - x))
  have c0 := hX.cell 0
  have f0 := hX.free 0
  have d0 := hY.cell 0
  have HY := Lib.hid hY
  have HO := Lib.hid ho
  clear hY ho hX hk hx
  go_enter Try.func80, Try.ntmps80
  go_wp2_with fail
  go_ret
  exact ⟨rfl, HY.out, HO.out⟩
/-- Behind how many. -/
def subW (k : Int) (l : List Int) : Int := k - sumW l
theorem findW_next {l : List Int} {k : Int} {j : Nat} {x : Int} (hx : l[j]? = some x) (h : findW k 0 l = findW (k - sumW (l.take j)) j (l.drop j)) :
    (k - sumW (l.take (j + 1)) < 0 → findW k 0 l = (j : Int)) ∧ (¬ k - sumW (l.take (j + 1)) < 0 → findW k 0 l = findW (k - sumW (l.take (j + 1))) (j + 1) (l.drop (j + 1))) ∧ sumW (l.take (j + 1)) = sumW (l.take j) + x := by
  have hs : sumW (l.take (j + 1)) = sumW (l.take j) + x := by
    rw [List.take_add_one, hx]
    exact sumW_snoc _ _
  have hj : j < l.length := (List.getElem?_eq_some_iff.1 hx).1
  have hd : l.drop j = x :: l.drop (j + 1) := by
    rw [List.drop_eq_getElem_cons hj]
    congr 1
    exact (List.getElem?_eq_some_iff.1 hx).2
  rw [hd] at h
  have e : findW (k - sumW (l.take j)) j (x :: l.drop (j + 1)) = if k - sumW (l.take j) - x < 0 then (j : Int) else findW (k - sumW (l.take j) - x) (j + 1) (l.drop (j + 1)) := rfl
  rw [e, show k - sumW (l.take j) - x = k - sumW (l.take (j + 1)) by omega] at h
  refine ⟨fun h1 => by rw [h, if_pos h1], fun h1 => by rw [h, if_neg h1], hs⟩
theorem findW_end {l : List Int} {k : Int} {j : Nat} (hj : l.length ≤ j) (h : findW k 0 l = findW (k - sumW (l.take j)) j (l.drop j)) : findW k 0 l = -1 := by
  rw [h, List.drop_eq_nil_of_le hj]
  rfl
set_option maxRecDepth 100000 in
set_option maxHeartbeats 400000 in
theorem idxI_any {C : Nat} (A : Option Addr) (n c : Nat) (l : List Int) (q : Nat) (k0 : Int) (w : World) (hn0 : l.length = n) (hr : RdI C w A l) (hC : C ≤ w.heap.size) (hCq : C ≤ q) (hm : n ≤ 60) (hw : WOk l) (hk : 0 ≤ k0 ∧ k0 ≤ 100000) (hp : Blk w q #[.int .i64 k0] 3) : Calls Try.prog 79 #[.slice A n c, .func (.func 80) #[] #[.pointer (some ⟨q, 0, none⟩)]] w fun e w' => e = .returned (.int .i64 (findW k0 0 l)) ∧ Exc q w w' := by
  have HN := Lib.hid hn0
  have HR := Lib.hid (fun W (hb : Exc q w W) => hr.exc hb hC hCq)
  have HW := Lib.hid hw
  clear hn0 hr hw
  go_enter Try.func79, Try.ntmps79
  go_wp2_with fail
  go_loopw [5, 8] (fun _ i wr => ∃ k : Nat, k ≤ n ∧ i = .int .i64 k ∧ Exc q w wr ∧ Blk wr q #[.int .i64 (k0 - sumW (l.take k))] 3 ∧ Hid (findW k0 0 l = findW (k0 - sumW (l.take k)) k (l.drop k))) (fun _ i _ => n - (intOf i).toNat)
  case atStart => exact ⟨0, Nat.zero_le _, rfl, Exc.refl _ _, by rw [List.take_zero, show k0 - sumW [] = k0 by simp [sumW]]; exact hp, (by show _ = _; rw [List.take_zero, List.drop_zero, show k0 - sumW [] = k0 by simp [sumW]])⟩
  case round =>
    clear hp
    obtain ⟨k, hkn, rfl, hK, hX, hA⟩ := hrel
    by_cases hlt : k < n
    · obtain ⟨x, hx⟩ : ∃ x, l[k]? = some x := ⟨_, List.getElem?_eq_getElem (show k < l.length by have := HN.out; omega)⟩
      obtain ⟨ad, rfl, hadb, hc⟩ := HR.out wr hK k x hx
      have hx1 := HW.out x (List.mem_of_getElem? hx)
      have hs0 := sumW_le (HW.out.take k)
      obtain ⟨ha1, ha2, hs⟩ := findW_next hx hA.out
      rw [List.length_take] at hs0
      have H1 := Lib.hid ha1
      have H2 := Lib.hid ha2
      clear hx ha1 ha2 hA
      have i2 : (k : Int) < (n : Int) := by omega
      have ix := iix wr ad n c k hlt
      have ld : (Instr.loadAt 3 (.pointer (some (ad.add k)))).run Try.prog wr = .ok (.int .i64 x) wr := load_int hc
      have hzy : k0 - sumW (l.take k) - x = k0 - sumW (l.take (k + 1)) := by omega
      have hzb : -1000000 ≤ k0 - sumW (l.take k) ∧ k0 - sumW (l.take k) ≤ 1000000 := by omega
      clear hs hs0
      generalize hyy : k0 - sumW (l.take (k + 1)) = y at *
      generalize k0 - sumW (l.take k) = z at *
      have c1 := by1_any z x q wr hX hzb hx1
      rw [hzy] at c1
      clear hzy hzb hX
      go_upto_region 4 with fail
      refine wp_region_lit ?_
      refine fl_start ?_
      generalize ha : Act.mk _ _ = a0
      have hn : a0.tmps.size = 19 := by rw [← ha]; kernel_rfl
      have h0 : (fr a0 []).eval (.tmp 0) = .slice (some ad) n c := by rw [← ha]; kernel_rfl
      refine fl_know hn rfl h0 ?_
      clear h0
      have h1 : (fr a0 [(0, true, .slice (some ad) n c)]).eval (.tmp 1) = .func (.func 80) #[] #[.pointer (some ⟨q, 0, none⟩)] := by rw [← ha]; kernel_rfl
      refine fl_know hn rfl h1 ?_
      clear h1
      have h5 : (fr a0 [(1, true, .func (.func 80) #[] #[.pointer (some ⟨q, 0, none⟩)]), (0, true, .slice (some ad) n c)]).eval (.tmp 5) = .int .i64 (k : Int) := by rw [← ha]; kernel_rfl
      refine fl_know hn rfl h5 ?_
      clear h5
      refine g_mv hn ?_
      refine g_mv hn ?_
      refine g_mv hn ?_
      refine g_ix hn ?_
      refine g_ld hn ?_
      refine g_cfC (v := .int .i64 x) (lb := #[.pointer (some ⟨q, 0, none⟩)]) en_spinney_weather_Sky_By_1 hn (R := fun v w2 => v = .bool (decide (y < 0)) ∧ Blk w2 q #[.int .i64 y] 3 ∧ Only1 q wr w2) (c1.mono fun _ _ ⟨he, hb2⟩ => ⟨_, he, rfl, hb2⟩) ?_
      rintro v w2 ⟨rfl, hX2, ho⟩
      refine fl_end ?_
      clear hn
      subst ha
      dsimp only [fr, cnd, Act.put, cond_true]
      simp only [List.setIfInBounds_toArray, List.set_cons_zero, List.set_cons_succ]
      have hK2 := hK.trans ho.exc
      clear ix ld c1 hc ho hK
      by_cases hid : y < 0
      · have R : Hid ((k : Int) = findW k0 0 l) := (H1.out hid).symm
        rw [decide_eq_true hid]
        clear H1 H2 hid
        go_wp2_with fail
        go_ret
        exact ⟨ret_i64 R.out, hK2⟩
      · have HA2 := Lib.hid (H2.out hid)
        rw [decide_eq_false hid]
        clear H1 H2 hid
        go_wp2_with fail
        go_roundw
        case rel => exact ⟨k + 1, by omega, by go_num, hK2, by rw [hyy]; exact hX2, by rw [hyy]; exact HA2⟩
        case measure => simp [intOf]; omega
    · have R : Hid (-1 = findW k0 0 l) := (findW_end (by have := HN.out; omega) hA.out).symm
      have i2 : ¬ (k : Int) < (n : Int) := by omega
      clear hA
      go_wp2_with fail
      go_ret
      exact ⟨ret_i64 R.out, hK⟩
end Go.Proofs.Ytkfhkfddhijkcaa

namespace Go.Proofs.Ytkfhkfddhijkcaa
open Go.RowKit

/-- What an element's type is, as the program tells: its zero, how many cells, how many bytes. -/
def ElI (el : TypeId) (zv : Value) (z y : Nat) : Prop := (Try.prog.info? el).map (fun i => (i.zero, i.size, i.bytes)) = some (some zv, z, y)
def ApX (el : TypeId) (z base : Nat) (A : Option Addr) (w : World) (n m : Nat) (l xs : List (Array Value)) (v : Value) (w2 : World) : Prop :=
  ∃ A' c', v = .slice A' (n + m) c' ∧ OwnX el z base w2 A' (n + m) c' (l ++ xs) ∧ Below base w w2 ∧ A' ≠ none ∧ (∀ x, x < w.heap.size → (∀ a, A = some a → a.block ≠ x) → w2.heap[x]? = w.heap[x]?) ∧ (A'.map (·.block) = A.map (·.block) ∨ A'.map (·.block) = some w.heap.size)
/-- What may lie at an address as a row. -/
def RdC (z : Nat) (w : World) (ad : Addr) (xs : List (Array Value)) : Prop := ∀ k cs, xs[k]? = some cs → ∀ j v, cs[j]? = some v → w.cell? (ad.add (k * z + j)) = some v
section
variable {l : List Oper} {Q : Exit → Act → World → Prop} {S : World → Prop} {fuel : Nat} {listed : Array Bool} {rest : List Oper} {a0 : Act} {L : List (Nat × Bool × Value)} {w : World}
theorem wp_apX2 {a : Act} {o : Oper} {K : Act → World → Prop} {d : Nat} {base : Nat} {A : Option Addr} {ad : Addr} {n c m dd : Nat} {ks xs : List (Array Value)} {el t : TypeId} {zv : Value} {z y : Nat} (hd : o.dst = some d) (s x : Operand) (ho : o.op = .call { callee := .builtin .append, args := #[s, x], argTypes := #[t, t] }) (e1 : a.eval s = .slice A n c) (e2 : a.eval x = .slice (some ad) m dd)
    (ht : Try.prog.underlying t = some (.slice el)) (hI : ElI el zv z y) (hzs : zv.cells.size = z) (hz0 : 0 < z) (hy0 : y ≤ 1000)
    (hown : OwnX el z base w A n c ks) (hsz0 : Szd z xs) (hm : xs.length = m) (hone : ∀ x, x ∈ xs → ∀ u ∈ x.toList, u.oneCell' = true) (hsrc : RdC z w ad xs) (hsz : n + m ≤ 1000000000) (hbase : base ≤ w.heap.size) (hA : A ≠ none ∨ m ≠ 0) (hK : ∀ v w2, ApX el z base A w n m ks xs v w2 → K (a.put (some d) v) w2) : o.wp Try.prog a w K Q := by
  obtain ⟨i0, hi0, hz1, hs0, hb0⟩ := info_parts hI
  refine wp_apM s x ho ht ht hi0 hz1 hs0 hb0 hzs hz0 hy0 e1 e2 hown hsz0 hm hone hsrc hsz hbase hA fun A' c' w' k1 k2 k3 k4 k5 => ?_
  rw [hd]
  exact hK _ _ ⟨A', c', rfl, k1, k2, k3, k4, k5⟩
theorem g_apX {i j d nn : Nat} {base : Nat} {A : Option Addr} {ad : Addr} {n c m dd : Nat} {ks xs : List (Array Value)} {el t : TypeId} {zv : Value} {z y : Nat} {ty : TypeId} {p : String} {af : Array Edge} (hn : a0.tmps.size = nn)
    (ht : Try.prog.underlying t = some (.slice el)) (hI : ElI el zv z y) (hzs : zv.cells.size = z) (hz0 : 0 < z) (hy0 : y ≤ 1000)
    (hown : OwnX el z base w A n c ks) (hsz0 : Szd z xs) (hm : xs.length = m) (hone : ∀ x, x ∈ xs → ∀ u ∈ x.toList, u.oneCell' = true) (hsrc : RdC z w ad xs) (hsz : n + m ≤ 1000000000) (hbase : base ≤ w.heap.size) (hA : A ≠ none ∨ m ≠ 0)
    (h : ∀ v w2, ApX el z base A w n m ks xs v w2 → FL Try.prog l Q rest a0 ((d, true, v) :: L) w2)
    (h1 : lk L i = some (true, .slice A n c) := by rfl) (h2 : lk L j = some (true, .slice (some ad) m dd) := by rfl) (hd : Nat.blt d nn = true := by rfl) : FL Try.prog l Q (⟨some d, .call { callee := .builtin .append, args := #[.tmp i, .tmp j], argTypes := #[t, t] }, ty, p, af, none⟩ :: rest) a0 L w :=
  fl_wp hn (R := ApX el z base A w n m ks xs) (fun K hK hk => wp_apX2 rfl (.tmp i) (.tmp j) rfl (lk_at hk h1 (fun _ => rfl) rfl) (lk_at hk h2 (fun _ => rfl) rfl) ht hI hzs hz0 hy0 hown hsz0 hm hone hsrc hsz hbase hA hK) h hd rfl
/-- A slice of one element. -/
theorem g_bsX {i d n : Nat} {v : Value} {t el : TypeId} {zv : Value} {z y : Nat} {ty : TypeId} {p : String} {af : Array Edge} (hn : a0.tmps.size = n) (ht : Try.prog.underlying t = some (.slice el)) (hI : ElI el zv z y) (hz0 : 0 < z) (hz1 : z ≤ 1000) (hsz : v.cells.size = z)
    (hrun : ∀ w : World, (Instr.buildSlice t 1 #[(0, v)]).run Try.prog w = .ok (.slice (some ⟨w.heap.size, 0, none⟩) 1 1) (w.alloc (.cells v.cells el)))
    (h : ∀ g w2, g = w.heap.size → Blk w2 g v.cells el → Below w.heap.size w w2 → FL Try.prog l Q rest a0 ((d, true, .slice (some ⟨g, 0, none⟩) 1 1) :: L) w2) (hi : lk L i = some (true, v) := by rfl) (hd : Nat.blt d n = true := by rfl) : FL Try.prog l Q (⟨some d, .buildSlice t 1 #[(0, .tmp i)], ty, p, af, none⟩ :: rest) a0 L w :=
  g_w hn (w2 := w.alloc (.cells v.cells el)) (v := .slice (some ⟨w.heap.size, 0, none⟩) 1 1) (fun hk => by
    have e : (#[(0, Operand.tmp i)] : Array (Nat × Operand)).map (fun y => (y.fst, (fr a0 L).eval y.snd)) = #[(0, v)] := by simp only [List.map_toArray, List.map_cons, List.map_nil, lk_at hk hi (fun _ => rfl) rfl]
    have h2 := hrun w
    rw [← e] at h2
    unfold execOp
    dsimp only
    rw [Sem.run_bind]
    refine (congrArg (fun r => Result.andThen r _) h2).trans ?_
    rfl) (h _ _ rfl (blk_new w _ el) (b0 w _)) rfl hd rfl
end
theorem blk_rdC {W : World} {g z : Nat} {cs : Array Value} {t : TypeId} (h : Blk W g cs t) : RdC z W ⟨g, 0, none⟩ [cs] := fun k y hy j v hv => by
  match k, hy with
  | 0, hy =>
    have e : cs = y := by simpa using hy
    subst e
    rw [Nat.zero_mul, Nat.zero_add, zeroX_at, h.cell j]
    exact hv
/-- Whole numbers as cells. -/
abbrev inC (x : Int) : Array Value := #[.int .i64 x]
abbrev tIn : TypeId := 3
theorem in_info : ElI tIn (.int .i64 0) 1 8 := by unfold ElI; kernel_rfl
theorem in_szd (l : List Int) : Szd 1 (l.map inC) := fun cs hc => by
  obtain ⟨x, _, rfl⟩ := List.mem_map.1 hc
  rfl
theorem bsIn (x : Int) (w : World) : (Instr.buildSlice 55 1 #[(0, .int .i64 x)]).run Try.prog w = .ok (.slice (some ⟨w.heap.size, 0, none⟩) 1 1) (w.alloc (.cells #[.int .i64 x] tIn)) := by kernel_rfl
theorem OwnX.rdi {base n c : Nat} {W : World} {A : Option Addr} {l : List Int} (h : OwnX tIn 1 base W A n c (l.map inC)) : RdI W.heap.size W A l := fun k x hx => by
  obtain ⟨ad, e, hb, hc⟩ := h.rd k (inC x) (by rw [List.getElem?_map, hx]; rfl)
  have h0 := hc 0 _ rfl
  rw [Nat.mul_one, Nat.add_zero] at h0
  exact ⟨ad, e, hb, h0⟩
end Go.Proofs.Ytkfhkfddhijkcaa
