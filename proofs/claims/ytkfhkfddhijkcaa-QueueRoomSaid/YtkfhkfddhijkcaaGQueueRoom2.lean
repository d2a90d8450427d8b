/-
  WHAT IS PROVED: skies: By; the document's Below, By. Conditions: those typed in each theorem. · rows of any kind of element, by XFast's laws: a slice of one element, append onto a row of the call's own. Conditions: those typed in each theorem. · fresh.Each of writes, fresh.Writes: a row of their own of the same writes. Conditions: those typed in each theorem. · the document's GoodLasts; roster's fixed fact; the law RosterPairs returns true. Conditions: those typed in each theorem. · the law RosterOrder returns true. Conditions: those typed in each theorem. · a queue's calls: New, Len, List, Lasts, Settle, Take. Conditions: those typed in each theorem. · append of one element onto a row of the call's own, with what else stays: nothing turns but the row's own block. Over any program · a queue takes a write, or tells why not. Conditions: those typed in each theorem. · whether two lists of writes are the same (spinneyref03.Same), for all slices of writes. Conditions: those typed in the theorem. · the law RosterTells returns true. Conditions: those typed in each theorem. · words for maps from numbers, over any program: a block's entries told as a partial function; what a look, a store, a delete, a new map, a copy do to it. Conditions: those typed in each theorem. · calls of function values, and looks into maps with 'comma ok', as laws for chains. Conditions: those typed in each theorem. · package stamp's Find and Tight. Conditions: those typed in each theorem. · package stamp's Tight: of each device the Seqs rise by one. Conditions: those typed in each theorem. · the law RosterTight returns true. Conditions: those typed in each theorem. · plain words for a queue: writes taken one after the other (Chn), what is left of them beside lasts, is tight. No condition. · the law's write of an id. Conditions: those typed in each theorem. · the fixed fact of chapter 14's law; plain words for it. Conditions: those typed in each theorem. · the fixed fact of chapter 14's law. Conditions: those typed in each theorem. · the law QueueRoom returns true. Conditions: those typed in each theorem.
-/
import Derived.Test.YtkfhkfddhijkcaaGQueueRoom1
import Derived.Test.YtkfhkfddhijkcaaGQueueRoom0
import Derived.Great.BuildSlice
import Derived.MapKept
import Derived.Below
import Derived.Laws.IdiomRangeMap
namespace Go.Proofs.Ytkfhkfddhijkcaa
open Go.RowKit

theorem en_spinney_weather_Sky_By_1 : ∀ args w, (callFunc 80 args).run Try.prog w = .ok (.enter 80 args) w := enters_of Try.func80 (by kernel_rfl) rfl
theorem en_slices_IndexFunc_int_int : ∀ args w, (callFunc 79 args).run Try.prog w = .ok (.enter 79 args) w := enters_of Try.func79 (by kernel_rfl) rfl
theorem en_spinney_weather_Sky_By : ∀ args w, (callFunc 33 args).run Try.prog w = .ok (.enter 33 args) w := enters_of Try.func33 (by kernel_rfl) rfl
theorem en_spinney_spinneyref29_By : ∀ args w, (callFunc 32 args).run Try.prog w = .ok (.enter 32 args) w := enters_of Try.func32 (by kernel_rfl) rfl

theorem callf_isC {w : World} {f : FuncId} (he : ∀ args w, (callFunc f args).run Try.prog w = .ok (.enter f args) w) (d : Option Tmp) (x y : Operand) (ts : Array TypeId) (ty : TypeId) (p : String) (af : Array Edge) (gd : Option (Nat × Bool)) (ρ : Operand → Value) (v : Value) (lb : Array Value) (h0 : ρ x = .func (.func f) #[] lb) (h1 : ρ y = v) : (execOp ρ ⟨d, .call { callee := .value x, args := #[y], argTypes := ts }, ty, p, af, gd⟩).run Try.prog w = .ok (.enter f (#[v] ++ lb)) w := by
  unfold execOp
  dsimp only
  go_simp
theorem g_cfC {l : List Oper} {Q : Exit → Act → World → Prop} {rest : List Oper} {a0 : Act} {L : List (Nat × Bool × Value)} {w : World} {f : FuncId} {i j d n : Nat} {v : Value} {lb : Array Value} {R : Value → World → Prop} {ts : Array TypeId} {ty : TypeId} {p : String} {af : Array Edge} {gd : Option (Nat × Bool)} (he : ∀ args w, (callFunc f args).run Try.prog w = .ok (.enter f args) w) (hn : a0.tmps.size = n) (hc : Calls Try.prog f (#[v] ++ lb) w fun e w' => ∃ v, e = .returned v ∧ R v w') (h : ∀ v w2, R v w2 → FL Try.prog l Q rest a0 ((d, true, v) :: L) w2) (hd : Nat.blt d n = true := by rfl) (hw : wtG l L gd = some true := by rfl) (hl : lk L i = some (true, .func (.func f) #[] lb) := by rfl) (hl2 : lk L j = some (true, v) := by rfl) : FL Try.prog l Q (⟨some d, .call { callee := .value (.tmp i), args := #[.tmp j], argTypes := ts }, ty, p, af, gd⟩ :: rest) a0 L w :=
  fl_callx hn rfl hd hw (fun hk => callf_isC he _ _ _ _ _ _ _ _ _ v lb (lk_at hk hl (fun _ => rfl) rfl) (lk_at hk hl2 (fun _ => rfl) rfl)) hc h

/-- Reads as these whole numbers. -/
def RdI (B : Nat) (W : World) (A : Option Addr) (l : List Int) : Prop := ∀ k x, l[k]? = some x → ∃ ad, A = some ad ∧ ad.block < B ∧ W.cell? (ad.add k) = some (.int .i64 x)
theorem RdI.nil (B : Nat) (W : World) (A : Option Addr) : RdI B W A [] := fun k x h => by simp at h
theorem RdI.exc {B g : Nat} {W W' : World} {A : Option Addr} {l : List Int} (h : RdI B W A l) (hb : Exc g W W') (hB : B ≤ W.heap.size) (hg : B ≤ g) : RdI B W' A l := fun k x hx => by
  obtain ⟨ad, e, h1, h2⟩ := h k x hx
  refine ⟨ad, e, h1, ?_⟩
  have hbe : (hb.below (B := B) hg hB) = (hb.below (B := B) hg hB) := rfl
  rw [(hb.below (B := B) hg hB).cell (by rw [add_block]; exact h1)]
  exact h2
theorem RdI.keep {B C : Nat} {W W' : World} {A : Option Addr} {l : List Int} (h : RdI B W A l) (hb : Below C W W') (hBC : B ≤ C) : RdI B W' A l := fun k x hx => by
  obtain ⟨ad, e, h1, h2⟩ := h k x hx
  exact ⟨ad, e, h1, by rw [hb.cell (by rw [add_block]; omega)]; exact h2⟩
theorem iix (W : World) (ad : Addr) (n c k : Nat) (h : k < n) : (Instr.indexAt 55 (.slice (some ad) n c) (.int .i64 (k : Int))).run Try.prog W = .ok (.pointer (some (ad.add k))) W := by
  have h1 : (0 : Int) ≤ (k : Int) := by omega
  have h2 : (k : Int) < (n : Int) := by omega
  go_simp
theorem wrapS {y : Int} (h : -9223372036854775808 ≤ y ∧ y ≤ 9223372036854775807) : IntKind.i64.wrap y = y := by
  unfold IntKind.wrap
  simp [IntKind.bits, IntKind.signed]
  omega
set_option maxRecDepth 100000 in
set_option maxHeartbeats 400000 in
theorem by1_any (k x : Int) (q : Nat) (w : World) (hX : Blk w q #[.int .i64 k] 3) (hk : -1000000 ≤ k ∧ k ≤ 1000000) (hx : 0 ≤ x ∧ x ≤ 1000) : Calls Try.prog 80 #[.int .i64 x, .pointer (some ⟨q, 0, none⟩)] w fun e w' => e = .returned (.bool (decide (k - x < 0))) ∧ Blk w' q #[.int .i64 (k - x)] 3 ∧ Only1 q w w' := by
  have wr : IntKind.i64.wrap (k - x) = k - x := wrapS (by omega)
  have hY := hX.set 0 (.int .i64 (k - x))
  have ho := only_cell w q 0 (.int .i64 (k - x))
  have c0 := hX.cell 0
  have f0 := hX.free 0
  have d0 := hY.cell 0
  have HY := Lib.hid hY
  have HO := Lib.hid ho
  clear hY ho hX hk hx
  go_enter Try.func80, Try.ntmps80
  go_wp2_with fail
  go_ret
  exact ⟨rfl, HY.out, HO.out⟩
/-- Behind how many. -/
def subW (k : Int) (l : List Int) : Int := k - sumW l
theorem findW_next {l : List Int} {k : Int} {j : Nat} {x : Int} (hx : l[j]? = some x) (h : findW k 0 l = findW (k - sumW (l.take j)) j (l.drop j)) :
    (k - sumW (l.take (j + 1)) < 0 → findW k 0 l = (j : Int)) ∧ (¬ k - sumW (l.take (j + 1)) < 0 → findW k 0 l = findW (k - sumW (l.take (j + 1))) (j + 1) (l.drop (j + 1))) ∧ sumW (l.take (j + 1)) = sumW (l.take j) + x := by
  have hs : sumW (l.take (j + 1)) = sumW (l.take j) + x := by
    rw [List.take_add_one, hx]
    exact sumW_snoc _ _
  have hj : j < l.length := (List.getElem?_eq_some_iff.1 hx).1
  have hd : l.drop j = x :: l.drop (j + 1) := by
    rw [List.drop_eq_getElem_cons hj]
    congr 1
    exact (List.getElem?_eq_some_iff.1 hx).2
  rw [hd] at h
  have e : findW (k - sumW (l.take j)) j (x :: l.drop (j + 1)) = if k - sumW (l.take j) - x < 0 then (j : Int) else findW (k - sumW (l.take j) - x) (j + 1) (l.drop (j + 1)) := rfl
  rw [e, show k - sumW (l.take j) - x = k - sumW (l.take (j + 1)) by omega] at h
  refine ⟨fun h1 => by rw [h, if_pos h1], fun h1 => by rw [h, if_neg h1], hs⟩
theorem findW_end {l : List Int} {k : Int} {j : Nat} (hj : l.length ≤ j) (h : findW k 0 l = findW (k - sumW (l.take j)) j (l.drop j)) : findW k 0 l = -1 := by
  rw [h, List.drop_eq_nil_of_le hj]
  rfl
set_option maxRecDepth 100000 in
set_option maxHeartbeats 400000 in
theorem idxI_any {C : Nat} (A : Option Addr) (n c : Nat) (l : List Int) (q : Nat) (k0 : Int) (w : World) (hn0 : l.length = n) (hr : RdI C w A l) (hC : C ≤ w.heap.size) (hCq : C ≤ q) (hm : n ≤ 60) (hw : WOk l) (hk : 0 ≤ k0 ∧ k0 ≤ 100000) (hp : Blk w q #[.int .i64 k0] 3) : Calls Try.prog 79 #[.slice A n c, .func (.func 80) #[] #[.pointer (some ⟨q, 0, none⟩)]] w fun e w' => e = .returned (.int .i64 (findW k0 0 l)) ∧ Exc q w w' := by
  have HN := Lib.hid hn0
  have HR := Lib.hid (fun W (hb : Exc q w W) => hr.exc hb hC hCq)
  have HW := Lib.hid hw
  clear hn0 hr hw
  go_enter Try.func79, Try.ntmps79
  go_wp2_with fail
  go_loopw [5, 8] (fun _ i wr => ∃ k : Nat, k ≤ n ∧ i = .int .i64 k ∧ Exc q w wr ∧ Blk wr q #[.int .i64 (k0 - sumW (l.take k))] 3 ∧ Hid (findW k0 0 l = findW (k0 - sumW (l.take k)) k (l.drop k))) (fun _ i _ => n - (intOf i).toNat)
  case atStart => exact ⟨0, Nat.zero_le _, rfl, Exc.refl _ _, by rw [List.take_zero, show k0 - sumW [] = k0 by simp [sumW]]; exact hp, (by show _ = _; rw [List.take_zero, List.drop_zero, show k0 - sumW [] = k0 by simp [sumW]])⟩
  case round =>
    clear hp
    obtain ⟨k, hkn, rfl, hK, hX, hA⟩ := hrel
    by_cases hlt : k < n
    · obtain ⟨x, hx⟩ : ∃ x, l[k]? = some x := ⟨_, List.getElem?_eq_getElem (show k < l.length by have := HN.out; omega)⟩
      obtain ⟨ad, rfl, hadb, hc⟩ := HR.out wr hK k x hx
      have hx1 := HW.out x (List.mem_of_getElem? hx)
      have hs0 := sumW_le (HW.out.take k)
      obtain ⟨ha1, ha2, hs⟩ := findW_next hx hA.out
      rw [List.length_take] at hs0
      have H1 := Lib.hid ha1
      have H2 := Lib.hid ha2
      clear hx ha1 ha2 hA
      have i2 : (k : Int) < (n : Int) := by omega
      have ix := iix wr ad n c k hlt
      have ld : (Instr.loadAt 3 (.pointer (some (ad.add k)))).run Try.prog wr = .ok (.int .i64 x) wr := load_int hc
      have hzy : k0 - sumW (l.take k) - x = k0 - sumW (l.take (k + 1)) := by omega
      have hzb : -1000000 ≤ k0 - sumW (l.take k) ∧ k0 - sumW (l.take k) ≤ 1000000 := by omega
      clear hs hs0
      generalize hyy : k0 - sumW (l.take (k + 1)) = y at *
      generalize k0 - sumW (l.take k) = z at *
      have c1 := by1_any z x q wr hX hzb hx1
      rw [hzy] at c1
      clear hzy hzb hX
      go_upto_region 4 with fail
      refine wp_region_lit ?_
      refine fl_start ?_
      generalize ha : Act.mk _ _ = a0
      have hn : a0.tmps.size = 19 := by rw [← ha]; kernel_rfl
      have h0 : (fr a0 []).eval (.tmp 0) = .slice (some ad) n c := by rw [← ha]; kernel_rfl
      refine fl_know hn rfl h0 ?_
      clear h0
      have h1 : (fr a0 [(0, true, .slice (some ad) n c)]).eval (.tmp 1) = .func (.func 80) #[] #[.pointer (some ⟨q, 0, none⟩)] := by rw [← ha]; kernel_rfl
      refine fl_know hn rfl h1 ?_
      clear h1
      have h5 : (fr a0 [(1, true, .func (.func 80) #[] #[.pointer (some ⟨q, 0, none⟩)]), (0, true, .slice (some ad) n c)]).eval (.tmp 5) = .int .i64 (k : Int) := by rw [← ha]; kernel_rfl
      refine fl_know hn rfl h5 ?_
      clear h5
      refine g_mv hn ?_
      refine g_mv hn ?_
      refine g_mv hn ?_
      refine g_ix hn ?_
      refine g_ld hn ?_
      refine g_cfC (v := .int .i64 x) (lb := #[.pointer (some ⟨q, 0, none⟩)]) en_spinney_weather_Sky_By_1 hn (R := fun v w2 => v = .bool (decide (y < 0)) ∧ Blk w2 q #[.int .i64 y] 3 ∧ Only1 q wr w2) (c1.mono fun _ _ ⟨he, hb2⟩ => ⟨_, he, rfl, hb2⟩) ?_
      rintro v w2 ⟨rfl, hX2, ho⟩
      refine fl_end ?_
      clear hn
      subst ha
      dsimp only [fr, cnd, Act.put, cond_true]
      simp only [List.setIfInBounds_toArray, List.set_cons_zero, List.set_cons_succ]
      have hK2 := hK.trans ho.exc
      clear ix ld c1 hc ho hK
      by_cases hid : y < 0
      · have R : Hid ((k : Int) = findW k0 0 l) := (H1.out hid).symm
        rw [decide_eq_true hid]
        clear H1 H2 hid
        go_wp2_with fail
        go_ret
        exact ⟨ret_i64 R.out, hK2⟩
      · have HA2 := Lib.hid (H2.out hid)
        rw [decide_eq_false hid]
        clear H1 H2 hid
        go_wp2_with fail
        go_roundw
        case rel => exact ⟨k + 1, by omega, by go_num, hK2, by rw [hyy]; exact hX2, by rw [hyy]; exact HA2⟩
        case measure => simp [intOf]; omega
    · have R : Hid (-1 = findW k0 0 l) := (findW_end (by have := HN.out; omega) hA.out).symm
      have i2 : ¬ (k : Int) < (n : Int) := by omega
      clear hA
      go_wp2_with fail
      go_ret
      exact ⟨ret_i64 R.out, hK⟩
end Go.Proofs.Ytkfhkfddhijkcaa

namespace Go.Proofs.Ytkfhkfddhijkcaa
open Go.RowKit

/-- What an element's type is, as the program tells: its zero, how many cells, how many bytes. -/
def ElI (el : TypeId) (zv : Value) (z y : Nat) : Prop := (Try.prog.info? el).map (fun i => (i.zero, i.size, i.bytes)) = some (some zv, z, y)
def ApX (el : TypeId) (z base : Nat) (A : Option Addr) (w : World) (n m : Nat) (l xs : List (Array Value)) (v : Value) (w2 : World) : Prop :=
  ∃ A' c', v = .slice A' (n + m) c' ∧ OwnX el z base w2 A' (n + m) c' (l ++ xs) ∧ Below base w w2 ∧ A' ≠ none ∧ (∀ x, x < w.heap.size → (∀ a, A = some a → a.block ≠ x) → w2.heap[x]? = w.heap[x]?) ∧ (A'.map (·.block) = A.map (·.block) ∨ A'.map (·.block) = some w.heap.size)
/-- What may lie at an address as a row. -/
def RdC (z : Nat) (w : World) (ad : Addr) (xs : List (Array Value)) : Prop := ∀ k cs, xs[k]? = some cs → ∀ j v, cs[j]? = some v → w.cell? (ad.add (k * z + j)) = some v
section
variable {l : List Oper} {Q : Exit → Act → World → Prop} {S : World → Prop} {fuel : Nat} {listed : Array Bool} {rest : List Oper} {a0 : Act} {L : List (Nat × Bool × Value)} {w : World}
theorem wp_apX2 {a : Act} {o : Oper} {K : Act → World → Prop} {d : Nat} {base : Nat} {A : Option Addr} {ad : Addr} {n c m dd : Nat} {ks xs : List (Array Value)} {el t : TypeId} {zv : Value} {z y : Nat} (hd : o.dst = some d) (s x : Operand) (ho : o.op = .call { callee := .builtin .append, args := #[s, x], argTypes := #[t, t] }) (e1 : a.eval s = .slice A n c) (e2 : a.eval x = .slice (some ad) m dd)
    (ht : Try.prog.underlying t = some (.slice el)) (hI : ElI el zv z y) (hzs : zv.cells.size = z) (hz0 : 0 < z) (hy0 : y ≤ 1000)
    (hown : OwnX el z base w A n c ks) (hsz0 : Szd z xs) (hm : xs.length = m) (hone : ∀ x, x ∈ xs → ∀ u ∈ x.toList, u.oneCell' = true) (hsrc : RdC z w ad xs) (hsz : n + m ≤ 1000000000) (hbase : base ≤ w.heap.size) (hA : A ≠ none ∨ m ≠ 0) (hK : ∀ v w2, ApX el z base A w n m ks xs v w2 → K (a.put (some d) v) w2) : o.wp Try.prog a w K Q := by
  obtain ⟨i0, hi0, hz1, hs0, hb0⟩ := info_parts hI
  refine wp_apM s x ho ht ht hi0 hz1 hs0 hb0 hzs hz0 hy0 e1 e2 hown hsz0 hm hone hsrc hsz hbase hA fun A' c' w' k1 k2 k3 k4 k5 => ?_
  rw [hd]
  exact hK _ _ ⟨A', c', rfl, k1, k2, k3, k4, k5⟩
theorem g_apX {i j d nn : Nat} {base : Nat} {A : Option Addr} {ad : Addr} {n c m dd : Nat} {ks xs : List (Array Value)} {el t : TypeId} {zv : Value} {z y : Nat} {ty : TypeId} {p : String} {af : Array Edge} (hn : a0.tmps.size = nn)
    (ht : Try.prog.underlying t = some (.slice el)) (hI : ElI el zv z y) (hzs : zv.cells.size = z) (hz0 : 0 < z) (hy0 : y ≤ 1000)
    (hown : OwnX el z base w A n c ks) (hsz0 : Szd z xs) (hm : xs.length = m) (hone : ∀ x, x ∈ xs → ∀ u ∈ x.toList, u.oneCell' = true) (hsrc : RdC z w ad xs) (hsz : n + m ≤ 1000000000) (hbase : base ≤ w.heap.size) (hA : A ≠ none ∨ m ≠ 0)
    (h : ∀ v w2, ApX el z base A w n m ks xs v w2 → FL Try.prog l Q rest a0 ((d, true, v) :: L) w2)
    (h1 : lk L i = some (true, .slice A n c) := by rfl) (h2 : lk L j = some (true, .slice (some ad) m dd) := by rfl) (hd : Nat.blt d nn = true := by rfl) : FL Try.prog l Q (⟨some d, .call { callee := .builtin .append, args := #[.tmp i, .tmp j], argTypes := #[t, t] }, ty, p, af, none⟩ :: rest) a0 L w :=
  fl_wp hn (R := ApX el z base A w n m ks xs) (fun K hK hk => wp_apX2 rfl (.tmp i) (.tmp j) rfl (lk_at hk h1 (fun _ => rfl) rfl) (lk_at hk h2 (fun _ => rfl) rfl) ht hI hzs hz0 hy0 hown hsz0 hm hone hsrc hsz hbase hA hK) h hd rfl
/-- A slice of one element. -/
theorem g_bsX {i d n : Nat} {v : Value} {t el : TypeId} {zv : Value} {z y : Nat} {ty : TypeId} {p : String} {af : Array Edge} (hn : a0.tmps.size = n) (ht : Try.prog.underlying t = some (.slice el)) (hI : ElI el zv z y) (hz0 : 0 < z) (hz1 : z ≤ 1000) (hsz : v.cells.size = z)
    (hrun : ∀ w : World, (Instr.buildSlice t 1 #[(0, v)]).run Try.prog w = .ok (.slice (some ⟨w.heap.size, 0, none⟩) 1 1) (w.alloc (.cells v.cells el)))
    (h : ∀ g w2, g = w.heap.size → Blk w2 g v.cells el → Below w.heap.size w w2 → FL Try.prog l Q rest a0 ((d, true, .slice (some ⟨g, 0, none⟩) 1 1) :: L) w2) (hi : lk L i = some (true, v) := by rfl) (hd : Nat.blt d n = true := by rfl) : FL Try.prog l Q (⟨some d, .buildSlice t 1 #[(0, .tmp i)], ty, p, af, none⟩ :: rest) a0 L w :=
  g_w hn (w2 := w.alloc (.cells v.cells el)) (v := .slice (some ⟨w.heap.size, 0, none⟩) 1 1) (fun hk => by
    have e : (#[(0, Operand.tmp i)] : Array (Nat × Operand)).map (fun y => (y.fst, (fr a0 L).eval y.snd)) = #[(0, v)] := by simp only [List.map_toArray, List.map_cons, List.map_nil, lk_at hk hi (fun _ => rfl) rfl]
    have h2 := hrun w
    rw [← e] at h2
    unfold execOp
    dsimp only
    rw [Sem.run_bind]
    refine (congrArg (fun r => Result.andThen r _) h2).trans ?_
    rfl) (h _ _ rfl (blk_new w _ el) (b0 w _)) rfl hd rfl
end
theorem blk_rdC {W : World} {g z : Nat} {cs : Array Value} {t : TypeId} (h : Blk W g cs t) : RdC z W ⟨g, 0, none⟩ [cs] := fun k y hy j v hv => by
  match k, hy with
  | 0, hy =>
    have e : cs = y := by simpa using hy
    subst e
    rw [Nat.zero_mul, Nat.zero_add, zeroX_at, h.cell j]
    exact hv
/-- Whole numbers as cells. -/
abbrev inC (x : Int) : Array Value := #[.int .i64 x]
abbrev tIn : TypeId := 3
theorem in_info : ElI tIn (.int .i64 0) 1 8 := by unfold ElI; kernel_rfl
theorem in_szd (l : List Int) : Szd 1 (l.map inC) := fun cs hc => by
  obtain ⟨x, _, rfl⟩ := List.mem_map.1 hc
  rfl
theorem bsIn (x : Int) (w : World) : (Instr.buildSlice 55 1 #[(0, .int .i64 x)]).run Try.prog w = .ok (.slice (some ⟨w.heap.size, 0, none⟩) 1 1) (w.alloc (.cells #[.int .i64 x] tIn)) := by kernel_rfl
theorem OwnX.rdi {base n c : Nat} {W : World} {A : Option Addr} {l : List Int} (h : OwnX tIn 1 base W A n c (l.map inC)) : RdI W.heap.size W A l := fun k x hx => by
  obtain ⟨ad, e, hb, hc⟩ := h.rd k (inC x) (by rw [List.getElem?_map, hx]; rfl)
  have h0 := hc 0 _ rfl
  rw [Nat.mul_one, Nat.add_zero] at h0
  exact ⟨ad, e, hb, h0⟩
end Go.Proofs.Ytkfhkfddhijkcaa

namespace Go.Proofs.Ytkfhkfddhijkcaa
open Go.RowKit

theorem en_spinney_fresh_Each_spinney_api_Write : ∀ args w, (callFunc 105 args).run Try.prog w = .ok (.enter 105 args) w := enters_of Try.func105 (by kernel_rfl) rfl
theorem en_spinney_fresh_Writes : ∀ args w, (callFunc 71 args).run Try.prog w = .ok (.enter 71 args) w := enters_of Try.func71 (by kernel_rfl) rfl

/-- Cells that stand in order are the row. -/
theorem row_is {cs : Array Value} {l : List (Array Value)} {z n : Nat} (hz : 0 < z) (hs : Szd z l) (hl : l.length = n) (hsz : cs.size = n * z) (h : ∀ i c, l[i]? = some c → ∀ j v, c[j]? = some v → cs[i * z + j]? = some v) : cs.toList = celV l := by
  refine List.ext_getElem? fun i => ?_
  have hlen := celV_len l hs
  by_cases hi : i < n * z
  · have hk : i / z < l.length := by rw [hl]; exact Nat.div_lt_of_lt_mul (by rw [Nat.mul_comm]; exact hi)
    have hx : l[i / z]? = some l[i / z] := List.getElem?_eq_getElem hk
    have hsz2 := hs _ (List.getElem_mem hk)
    have hj : i % z < l[i / z].size := by rw [hsz2]; exact Nat.mod_lt _ hz
    have hv : l[i / z][i % z]? = some l[i / z][i % z] := Array.getElem?_eq_getElem hj
    have h2 := celV_get l hs (i / z) (i % z) _ _ hx hv
    have h3 := h _ _ hx _ _ hv
    rw [Nat.div_add_mod' i z] at h2 h3
    rw [h2, Array.getElem?_toList, h3]
  · have h1 : (celV l).length ≤ i := by rw [hlen, hl]; omega
    have h2 : cs.toList.length ≤ i := by rw [Array.length_toList, hsz]; omega
    rw [List.getElem?_eq_none h1, List.getElem?_eq_none h2]
theorem own_of {t : TypeId} {z base n g : Nat} {W : World} {cs : Array Value} {l : List (Array Value)} (hz : 0 < z) (hX : Blk W g cs t) (hb : base ≤ g) (hm : n ≤ maxLen) (hs : Szd z l) (hl : l.length = n) (hsz : cs.size = n * z) (h : ∀ i c, l[i]? = some c → ∀ j v, c[j]? = some v → cs[i * z + j]? = some v) : OwnX t z base W (some ⟨g, 0, none⟩) n n l := by
  have e := row_is hz hs hl hsz h
  refine ⟨⟨by rw [celV_len l hs, hl], .inr ⟨g, n, cs, rfl, hb, hX, Nat.le_refl _, hm, hsz, ?_⟩⟩, hs, hl⟩
  rw [e, List.take_of_length_le (by rw [celV_len l hs, hl]; exact Nat.le_refl _)]
theorem setL_getQ : ∀ (vs : List Value) (cs : Array Value) (j : Nat), j + vs.length ≤ cs.size → ∀ i, (setL cs j vs)[i]? = if j ≤ i ∧ i < j + vs.length then vs[i - j]? else cs[i]?
  | [], cs, j, _, i => by
    rw [if_neg (by simp)]
    rfl
  | v :: r, cs, j, h, i => by
    have hlt : j < cs.size := by simp at h; omega
    show (setL (cs.setIfInBounds j v) (j + 1) r)[i]? = _
    rw [setL_getQ r _ (j + 1) (by simp at h ⊢; omega) i]
    simp only [List.length_cons]
    by_cases e : i = j
    · subst e
      rw [if_neg (by omega), if_pos (by omega), Array.getElem?_setIfInBounds_self_of_lt hlt]
      simp
    · by_cases h2 : j + 1 ≤ i ∧ i < j + 1 + r.length
      · rw [if_pos h2, if_pos (by omega), show i - j = (i - (j + 1)) + 1 by omega]
        rfl
      · rw [if_neg h2, if_neg (by omega), Array.getElem?_setIfInBounds_ne (by omega)]
theorem setL_sizeQ : ∀ (vs : List Value) (j : Nat) (cs : Array Value), (setL cs j vs).size = cs.size
  | [], _, _ => rfl
  | v :: r, j, cs => by
    show (setL (cs.setIfInBounds j v) (j + 1) r).size = _
    rw [setL_sizeQ r, Array.size_setIfInBounds]
/-- One more of a row stands. -/
theorem row_next {cs c : Array Value} {l : List (Array Value)} {z n k : Nat} (hs : Szd z l) (hl : l.length = n) (hsz : cs.size = n * z) (hx : l[k]? = some c) (h : ∀ i c, i < k → l[i]? = some c → ∀ j v, c[j]? = some v → cs[i * z + j]? = some v) :
    (setL cs (k * z) c.toList).size = n * z ∧ ∀ i d, i < k + 1 → l[i]? = some d → ∀ j v, d[j]? = some v → (setL cs (k * z) c.toList)[i * z + j]? = some v := by
  refine ⟨by rw [setL_sizeQ, hsz], fun i d hi hd j v hv => ?_⟩
  have hk : k < n := by rw [← hl]; exact (List.getElem?_eq_some_iff.1 hx).1
  have hcz := hs c (List.mem_of_getElem? hx)
  have hdz := hs d (List.mem_of_getElem? hd)
  have hj : j < z := by rw [← hdz]; exact (Array.getElem?_eq_some_iff.1 hv).1
  have hle : (k + 1) * z ≤ n * z := Nat.mul_le_mul_right z hk
  rw [Nat.succ_mul] at hle
  rw [setL_getQ _ _ _ (by rw [Array.length_toList, hcz, hsz]; exact hle), Array.length_toList, hcz]
  by_cases e : i = k
  · subst e
    rw [hx] at hd
    injection hd with hd
    subst hd
    rw [if_pos (by omega), show i * z + j - i * z = j by omega, Array.getElem?_toList]
    exact hv
  · have h2 : (i + 1) * z ≤ k * z := Nat.mul_le_mul_right z (by omega)
    rw [Nat.succ_mul] at h2
    rw [if_neg (by omega)]
    exact h i d (by omega) hd j v hv
theorem run_makeWQ (W : World) (n : Nat) (hn : n ≤ 1000000) :
    (Instr.makeSlice 30 (.int .i64 (n : Int)) (.int .i64 (n : Int))).run Try.prog W = .ok (.slice (some ⟨W.heap.size, 0, none⟩) n n) (W.alloc (.cells (madeCells (wrI 0 0 0 ⟨#[]⟩ 0 0 ⟨#[]⟩ 0 0 ⟨#[]⟩) (n * 10)) 39)) := by
  obtain ⟨i0, hi0, hz0, hz1, hz2⟩ := info_parts wr_infoM
  have h := run_make W 30 39 i0 (.agg (wrI 0 0 0 ⟨#[]⟩ 0 0 ⟨#[]⟩ 0 0 ⟨#[]⟩)) Try.underlying30 hi0 hz0 .i64 .i64 (n : Int) (n : Int) (by omega) (Int.le_refl _) (by rw [hz2]; omega) (by omega)
  rw [Int.toNat_natCast, hz1] at h
  exact h
/-- What a write's texts may be. -/
def Fit (x : Wr) : Prop := x.ky.size ≤ 1000000 ∧ x.sa.size ≤ 1000000 ∧ x.sb.size ≤ 1000000
theorem map_getQ {ws : List Wr} {k : Nat} {x : Wr} (h : ws[k]? = some x) : (ws.map Wr.cells)[k]? = some x.cells := by rw [List.getElem?_map, h]; rfl
set_option maxRecDepth 100000 in
set_option maxHeartbeats 4000000 in
theorem eachW_any {C : Nat} (A : Option Addr) (n c : Nat) (ws : List Wr) (w : World) (hn0 : ws.length = n) (hr : RdW C w A ws) (hC : C ≤ w.heap.size) (hm : n ≤ 1000000) (hf : ∀ x, x ∈ ws → Fit x) : Calls Try.prog 105 #[.slice A n c, .func (.func 74) #[] #[]] w (OwnR ws w) := by
  have hmk : ∀ W : World, (Instr.makeSlice 30 (.int .i64 (n : Int)) (.int .i64 (n : Int))).run Try.prog W = .ok (.slice (some ⟨W.heap.size, 0, none⟩) n n) (W.alloc (.cells (madeCells (wrI 0 0 0 ⟨#[]⟩ 0 0 ⟨#[]⟩ 0 0 ⟨#[]⟩) (n * 10)) 39)) := fun W => run_makeWQ W n hm
  have HN := Lib.hid hn0
  have HR := Lib.hid (fun W (h : Below w.heap.size w W) => hr.keep (W' := W) h hC)
  have HF := Lib.hid hf
  have hK0 := blk_new w (madeCells (wrI 0 0 0 ⟨#[]⟩ 0 0 ⟨#[]⟩ 0 0 ⟨#[]⟩) (n * 10)) 39
  have hba := b0 w (.cells (madeCells (wrI 0 0 0 ⟨#[]⟩ 0 0 ⟨#[]⟩ 0 0 ⟨#[]⟩) (n * 10)) 39)
  have hcs : (madeCells (wrI 0 0 0 ⟨#[]⟩ 0 0 ⟨#[]⟩ 0 0 ⟨#[]⟩) (n * 10)).size = n * 10 := by simp [madeCells]
  clear hn0 hr hf
  go_enter Try.func105, Try.ntmps105
  go_upto_region 2 with fail
  generalize w.alloc (.cells (madeCells (wrI 0 0 0 ⟨#[]⟩ 0 0 ⟨#[]⟩ 0 0 ⟨#[]⟩) (n * 10)) 39) = W at hK0 hba ⊢
  generalize madeCells (wrI 0 0 0 ⟨#[]⟩ 0 0 ⟨#[]⟩ 0 0 ⟨#[]⟩) (n * 10) = cs0 at hK0 hcs
  clear hmk
  generalize hgg : w.heap.size = g at hK0 hba HR ⊢
  go_wp2_with fail
  go_loopw [6, 7, 13] (fun _ _ i wr => ∃ (k : Nat) (cs : Array Value), k ≤ n ∧ i = .int .i64 k ∧ Blk wr g cs 39 ∧ cs.size = n * 10 ∧ Hid (∀ i c, i < k → (ws.map Wr.cells)[i]? = some c → ∀ j v, c[j]? = some v → cs[i * 10 + j]? = some v) ∧ Below g w wr) (fun _ _ i _ => n - (intOf i).toNat)
  case atStart => exact ⟨0, cs0, Nat.zero_le _, rfl, hK0, hcs, fun i x hi => by omega, hba⟩
  case round =>
    clear hK0 hcs hba
    obtain ⟨k, cs, hk, rfl, hK, hcs, hA, hW⟩ := hrel
    by_cases hlt : k < n
    · obtain ⟨x, hx⟩ : ∃ x, ws[k]? = some x := ⟨_, List.getElem?_eq_getElem (show k < ws.length by have := HN.out; omega)⟩
      obtain ⟨ad, rfl, _, hc⟩ := HR.out wr hW k x hx
      have i2 : (k : Int) < (n : Int) := by omega
      have HX := Lib.hid hx
      obtain ⟨g1, g2, g3⟩ := HF.out x (List.mem_of_getElem? hx)
      have ix := wix wr ad n c k hlt
      have ld := wld hc
      clear hx hc
      go_upto_region 4 with fail
      refine wp_region_lit ?_
      refine fl_start ?_
      generalize ha : Act.mk _ _ = a0
      have hn : a0.tmps.size = 26 := by rw [← ha]; kernel_rfl
      have h11 : (fr a0 []).eval (.tmp 11) = .slice (some ad) n c := by rw [← ha]; kernel_rfl
      refine fl_know hn rfl h11 ?_
      clear h11
      have h13 : (fr a0 [(11, true, .slice (some ad) n c)]).eval (.tmp 13) = .int .i64 (k : Int) := by rw [← ha]; kernel_rfl
      refine fl_know hn rfl h13 ?_
      clear h13
      refine g_mv hn ?_
      refine g_ix hn ?_
      refine g_ld hn ?_
      refine al_row hn (alW wr) ?_
      intro q w2 hq hY hB2
      refine g_as hn ?_
      refine g_str hY ?_ (h1 := wr_oneC x)
      intro w3 ho hY3
      refine fl_end ?_
      clear hn
      subst ha
      dsimp only [fr, cnd, Act.put, cond_true]
      simp only [List.setIfInBounds_toArray, List.set_cons_zero, List.set_cons_succ]
      have hW3 : Below wr.heap.size wr w3 := hB2.trans (ho.below (by omega))
      have hK3 := hK.keep hW3
      have hB3 : Below g w w3 := hW.trans (hW3.mono (by have := hK.lt; omega))
      have hqg : g < q := by have := hK.lt; omega
      clear ix ld hY hB2 ho hW3 hK hW
      have lY := wld_blk hY3
      have cF := freshWr_any x w3 g1 g2 g3
      go_upto_region 5 with fail
      refine wp_region_lit ?_
      refine fl_start ?_
      generalize ha : Act.mk _ _ = a0
      have hn : a0.tmps.size = 26 := by rw [← ha]; kernel_rfl
      have h1 : (fr a0 []).eval (.tmp 1) = .func (.func 74) #[] #[] := by rw [← ha]; kernel_rfl
      refine fl_know hn rfl h1 ?_
      clear h1
      have h5 : (fr a0 [(1, true, .func (.func 74) #[] #[])]).eval (.tmp 5) = .slice (some ⟨g, 0, none⟩) n n := by rw [← ha]; kernel_rfl
      refine fl_know hn rfl h5 ?_
      clear h5
      have h6 : (fr a0 [(5, true, .slice (some ⟨g, 0, none⟩) n n), (1, true, .func (.func 74) #[] #[])]).eval (.tmp 6) = .int .i64 (k : Int) := by rw [← ha]; kernel_rfl
      refine fl_know hn rfl h6 ?_
      clear h6
      have h7 : (fr a0 [(6, true, .int .i64 (k : Int)), (5, true, .slice (some ⟨g, 0, none⟩) n n), (1, true, .func (.func 74) #[] #[])]).eval (.tmp 7) = .pointer (some ⟨q, 0, none⟩) := by rw [← ha]; kernel_rfl
      refine fl_know hn rfl h7 ?_
      clear h7
      refine g_mv hn ?_
      refine g_mv hn ?_
      refine g_mv hn ?_
      refine g_ld hn ?_
      refine g_cfC (v := .agg x.cells) (lb := #[]) en_spinney_fresh_Write hn (R := fun v w2 => v = .agg x.cells ∧ Below w3.heap.size w3 w2) (cF.mono fun _ _ ⟨he, hb2⟩ => ⟨_, he, rfl, hb2⟩) ?_
      rintro v w4 ⟨rfl, hB4⟩
      have hK4 := hK3.keep hB4
      have ix := wix w4 ⟨g, 0, none⟩ n n k hlt
      rw [zeroX_at] at ix
      refine g_ix hn ?_
      refine g_stm hK4 ?_ (h1 := wr_oneC x) (hs := by rw [hcs]; show k * 10 + 10 ≤ n * 10; omega)
      intro w5 ho5 hK5
      refine fl_end ?_
      clear hn
      subst ha
      dsimp only [fr, cnd, Act.put, cond_true]
      simp only [List.setIfInBounds_toArray, List.set_cons_zero, List.set_cons_succ]
      have hB5 : Below g w w5 := (hB3.trans (hB4.mono (by have := hK3.lt; omega))).trans (ho5.below (Nat.le_refl _))
      obtain ⟨hcs5, hA5⟩ := row_next (wr_szd ws) (by rw [List.length_map]; exact HN.out) hcs (map_getQ HX.out) hA.out
      have HA5 := Lib.hid hA5
      generalize setL cs (k * 10) x.cells.toList = cs5 at hK5 hcs5 HA5
      clear lY cF ix hK3 hB3 hB4 hK4 ho5 hA hA5 hY3 hcs
      go_wp2_with fail
      go_roundw
      case rel => exact ⟨k + 1, cs5, by omega, by go_num, hK5, hcs5, HA5, hB5⟩
      case measure => simp [intOf]; omega
    · have hq : ¬ (k : Int) < (n : Int) := by omega
      have hO := own_of (base := g) (by decide) hK (Nat.le_refl _) (by unfold maxLen; omega) (wr_szd ws) (by rw [List.length_map]; exact HN.out) hcs (fun i c hi j v hv => hA.out i c (by have := (List.getElem?_eq_some_iff.1 hi).1; rw [List.length_map] at this; have := HN.out; omega) hi j v hv)
      clear hA hK
      go_wp2_with fail
      go_ret
      unfold OwnR
      rw [hgg]
      exact ⟨some ⟨g, 0, none⟩, n, n, rfl, hO, by first | exact hW | (rw [hgg]; exact hW)⟩
set_option maxRecDepth 100000 in
set_option maxHeartbeats 4000000 in
theorem freshWs_any {C : Nat} (A : Option Addr) (n c : Nat) (ws : List Wr) (w : World) (hn0 : ws.length = n) (hr : RdW C w A ws) (hC : C ≤ w.heap.size) (hm : n ≤ 1000000) (hf : ∀ x, x ∈ ws → Fit x) : Calls Try.prog 71 #[.slice A n c] w (OwnR ws w) := by
  have c1 := eachW_any A n c ws w hn0 hr hC hm hf
  go_enter Try.func71, Try.ntmps71
  go_wp2_with fail
  refine c1.mono ?_
  rintro e w2 ⟨A2, n2, c2, rfl, hO, hB⟩
  go_wp2_with fail
  go_ret
  exact ⟨A2, n2, c2, rfl, hO, hB⟩
end Go.Proofs.Ytkfhkfddhijkcaa

namespace Go.Proofs.Ytkfhkfddhijkcaa
open Go.RowKit

/-- Are they lasts? -/
def glaB (x : List Int) : Bool := ((List.range 12).all fun j => decide (0 ≤ gI x j ∧ gI x j ≤ 40)) && (gI x 0 == 0)
theorem glaB_iff {x : List Int} : ((List.range 12).all fun j => decide (0 ≤ gI x j ∧ gI x j ≤ 40)) = true ↔ ∀ j, j < 12 → 0 ≤ gI x j ∧ gI x j ≤ 40 := by simp
theorem glaB_sml {x : List Int} (hx : x.length = 12) (h : glaB x = true) : Sml x := by
  refine ⟨hx, fun j => ?_⟩
  unfold glaB at h
  rw [Bool.and_eq_true, glaB_iff] at h
  by_cases hj : j < 12
  · have := h.1 j hj
    omega
  · unfold gI
    rw [List.getElem?_eq_none (by omega)]
    exact ⟨Int.le_refl _, show (0 : Int) ≤ 1000 by decide⟩
/-! The fixed fact. -/
def exL : List Int := [0, 4, 0, 0, 0, 0, 0, 0, 0, 0, 0, 0]
theorem exL_sml : Sml exL := glaB_sml rfl (by kernel_rfl)
theorem alL (w : World) : (Instr.alloc 29 true (.tuple #[])).run Try.prog w = .ok (.pointer (some ⟨w.heap.size, 0, none⟩)) (w.alloc (.cells (laI 0 0 0 0 0 0 0 0 0 0 0 0) 29)) := by kernel_rfl
theorem bdId (a c : Int) (w : World) : (Instr.build 32 #[(0, .int .i64 a), (1, .int .i64 c)]).run Try.prog w = .ok (.agg #[.int .i64 a, .int .i64 c]) w := by kernel_rfl
theorem bdL (w : World) : (Instr.build 29 #[(1, .int .i64 4)]).run Try.prog w = .ok (.agg (laI 0 4 0 0 0 0 0 0 0 0 0 0)) w := by kernel_rfl
/-! The law RosterPairs. -/
theorem pairs_true {x y : List Int} (hx : x.length = 12) (hy : y.length = 12) : joinL x y = joinL y x ∧ covLB (joinL x y) x = true ∧ covLB (joinL x y) y = true ∧ (covLB x y = true → joinL x y = x) := by
  refine ⟨mk12_ext fun j _ => Int.max_comm .., (covLB_iff (joinL_len ..)).2 fun j hj => ?_, (covLB_iff (joinL_len ..)).2 fun j hj => ?_, fun h => of_decide_eq_true h⟩
  · rw [gI_join hj]
    omega
  · rw [gI_join hj]
    omega
end Go.Proofs.Ytkfhkfddhijkcaa

namespace Go.Proofs.Ytkfhkfddhijkcaa
open Go.RowKit

/-- The greatest of a number and a device's. -/
def mxI (j : Nat) (m : Int) (ws : List Wr) : Int := ws.foldl (fun m x => if x.dev = (j : Int) then max m x.seq else m) m
theorem mxI_app (j : Nat) (m : Int) (a c : List Wr) : mxI j m (a ++ c) = mxI j (mxI j m a) c := by unfold mxI; rw [List.foldl_append]
theorem mxI_max (j : Nat) (ws : List Wr) : ∀ m c : Int, mxI j (max m c) ws = max (mxI j m ws) c := by
  induction ws with
  | nil => intro m c; rfl
  | cons x r ih =>
    intro m c
    show mxI j (if x.dev = (j : Int) then max (max m c) x.seq else max m c) r = max (mxI j (if x.dev = (j : Int) then max m x.seq else m) r) c
    split
    · rw [show max (max m c) x.seq = max (max m x.seq) c by omega]
      exact ih _ _
    · exact ih _ _
theorem mxI_le (j : Nat) (ws : List Wr) : ∀ m : Int, m ≤ mxI j m ws := by
  induction ws with
  | nil => intro m; exact Int.le_refl _
  | cons x r ih =>
    intro m
    show m ≤ mxI j (if x.dev = (j : Int) then max m x.seq else m) r
    refine Int.le_trans ?_ (ih _)
    split <;> omega
theorem mxI_two (j : Nat) (m : Int) (a c : List Wr) : mxI j (mxI j m a) c = max (mxI j m a) (mxI j m c) := by
  have h := mxI_le j a m
  have e : mxI j m a = max m (mxI j m a) := by omega
  rw [e, mxI_max, ← e]
  omega
theorem gI_ofL {j : Nat} (hj : j < 12) : ∀ (ws : List Wr) (l : List Int), l.length = 12 → gI (ofL l ws) j = mxI j (gI l j) ws := by
  intro ws
  induction ws with
  | nil => intro l _; rfl
  | cons x r ih =>
    intro l hl
    show gI (ofL (ofS l x) r) j = mxI j (if x.dev = (j : Int) then max (gI l j) x.seq else gI l j) r
    rw [ih _ (ofS_len hl x)]
    congr 1
    cases hn : nodeB x.dev with
    | false =>
      rw [ofS_no hn, if_neg]
      intro e
      unfold nodeB at hn
      rw [e, decide_eq_true (by omega), decide_eq_true (by omega)] at hn
      cases hn
    | true =>
      obtain ⟨d, hd, e⟩ := nodeB_nat hn
      rw [ofS_yes hd e, gI_set (by omega), e]
      by_cases h : d = j
      · subst h
        rw [if_pos rfl, if_pos rfl]
      · rw [if_neg h, if_neg (by omega)]
theorem ofL_eq {l : List Int} (hl : l.length = 12) {m : List Int} (hm : m.length = 12) {ws : List Wr} (h : ∀ j, j < 12 → gI m j = mxI j (gI l j) ws) : m = ofL l ws :=
  li_ext hm (ofL_len hl ws) fun j hj => by rw [h j hj, gI_ofL hj ws l hl]
theorem order_true {l : List Int} (hl : l.length = 12) (ws : List Wr) (k : Nat) :
    ofL l (ws.drop k ++ ws.take k) = ofL l ws ∧ ofL (ofL l (ws.take k)) (ws.drop k) = ofL l ws ∧ joinL (ofL l (ws.take k)) (ofL l (ws.drop k)) = ofL l ws ∧ covLB (ofL l ws) l = true := by
  have ht : ∀ j, mxI j (gI l j) ws = max (mxI j (gI l j) (ws.take k)) (mxI j (gI l j) (ws.drop k)) := fun j => by
    rw [← mxI_two, ← mxI_app, List.take_append_drop]
  refine ⟨ofL_eq hl (ofL_len hl _) fun j hj => ?_, ofL_eq hl (ofL_len (ofL_len hl _) _) fun j hj => ?_, ofL_eq hl (joinL_len ..) fun j hj => ?_, (covLB_iff (ofL_len hl ws)).2 fun j hj => ?_⟩
  · rw [gI_ofL hj _ l hl, mxI_app, mxI_two, ht j]
    omega
  · rw [gI_ofL hj _ _ (ofL_len hl _), gI_ofL hj _ l hl, mxI_two, ht j]
  · rw [gI_join hj, gI_ofL hj _ l hl, gI_ofL hj _ l hl, ht j]
  · rw [gI_ofL hj _ l hl]
    exact mxI_le j ws _
end Go.Proofs.Ytkfhkfddhijkcaa

namespace Go.Proofs.Ytkfhkfddhijkcaa
open Go.RowKit

theorem en_spinney_queue_New : ∀ args w, (callFunc 14 args).run Try.prog w = .ok (.enter 14 args) w := enters_of Try.func14 (by kernel_rfl) rfl
theorem en_spinney_queue_Queue_Len : ∀ args w, (callFunc 25 args).run Try.prog w = .ok (.enter 25 args) w := enters_of Try.func25 (by kernel_rfl) rfl
theorem en_spinney_queue_Queue_List : ∀ args w, (callFunc 19 args).run Try.prog w = .ok (.enter 19 args) w := enters_of Try.func19 (by kernel_rfl) rfl
theorem en_spinney_queue_Queue_Lasts : ∀ args w, (callFunc 73 args).run Try.prog w = .ok (.enter 73 args) w := enters_of Try.func73 (by kernel_rfl) rfl
theorem en_spinney_queue_Queue_Settle : ∀ args w, (callFunc 18 args).run Try.prog w = .ok (.enter 18 args) w := enters_of Try.func18 (by kernel_rfl) rfl
theorem en_spinney_queue_Queue_Take : ∀ args w, (callFunc 20 args).run Try.prog w = .ok (.enter 20 args) w := enters_of Try.func20 (by kernel_rfl) rfl

/-- A queue of these writes. -/
structure QuW (W : World) (q : Nat) (room : Int) (A : Option Addr) (n c : Nat) (ws : List Wr) : Prop where
  blk : Blk W q #[.int .i64 room, .slice A n c] 132
  own : OwnX tWr 10 (q + 1) W A n c (ws.map Wr.cells)
  fit : ∀ x, x ∈ ws → Fit x
theorem QuW.len {W : World} {q : Nat} {room : Int} {A : Option Addr} {n c : Nat} {ws : List Wr} (h : QuW W q room A n c ws) : ws.length = n := by
  have := h.own.len
  rwa [List.length_map] at this
theorem QuW.keep {W W' : World} {q : Nat} {room : Int} {A : Option Addr} {n c : Nat} {ws : List Wr} (h : QuW W q room A n c ws) (hb : Below W.heap.size W W') : QuW W' q room A n c ws := ⟨h.blk.keep hb, h.own.keep hb, h.fit⟩
/-- All that lay there stays, but the queue's block and its row. -/
structure QuK (q : Nat) (A : Option Addr) (W W' : World) : Prop where
  os : W'.os = W.os
  tape : W'.tape = W.tape
  output : W'.output = W.output
  size : W.heap.size ≤ W'.heap.size
  block : ∀ k, k < W.heap.size → k ≠ q → (∀ a, A = some a → a.block ≠ k) → W'.heap[k]? = W.heap[k]?
theorem quK_of {a b : World} (h : Below a.heap.size a b) (q : Nat) (A : Option Addr) : QuK q A a b := ⟨h.os, h.tape, h.output, h.size, fun k hk _ _ => h.block k hk⟩
theorem QuK.below {q B : Nat} {A : Option Addr} {a b : World} (h : QuK q A a b) (hq : B ≤ q) (hA : ∀ x, A = some x → q < x.block) (hs : B ≤ a.heap.size) : Below B a b :=
  ⟨h.os, h.tape, h.output, h.size, fun k hk => h.block k (by omega) (by omega) fun x hx => by have := hA x hx; omega⟩
theorem QuW.above {W : World} {q : Nat} {room : Int} {A : Option Addr} {n c : Nat} {ws : List Wr} (h : QuW W q room A n c ws) : ∀ x, A = some x → q < x.block := fun x hx => by have := (h.own.blk hx).1; omega
/-- A block of another kind isn't the row. -/
theorem own_ne {W : World} {base g : Nat} {A : Option Addr} {n c : Nat} {ws : List Wr} {cs : Array Value} {T : TypeId} (h : OwnX tWr 10 base W A n c (ws.map Wr.cells)) (hX : Blk W g cs T) (hT : T ≠ tWr) : ∀ a, A = some a → a.block ≠ g := fun a ha e => by
  subst ha
  rcases h.1.2 with ⟨e1, _⟩ | ⟨g2, cap, cur, e1, _, h2, _⟩
  · cases e1
  · injection e1 with e1
    injection e1 with e1
    subst e1
    rw [show (⟨g2, 0, none⟩ : Addr).block = g2 from rfl] at e
    subst e
    unfold Blk at hX
    rw [h2] at hX
    injection hX with hX
    injection hX with _ hX _
    exact hT hX.symm
theorem QuK.blk {q p : Nat} {A : Option Addr} {a b : World} (h : QuK q A a b) {cs : Array Value} {t : TypeId} (hX : Blk a p cs t) (hq : p ≠ q) (hA : ∀ x, A = some x → x.block ≠ p) : Blk b p cs t := (h.block p hX.lt hq hA).trans hX
theorem bel_un {b : Nat} {w w' : World} (h : Below b w.drew w') : Below b w w' := ⟨h.os, h.tape, h.output, h.size, h.block⟩
theorem qf0 (W : World) (q : Nat) : (Instr.fieldAt 132 (.pointer (some ⟨q, 0, none⟩)) 0).run Try.prog W = .ok (.pointer (some ⟨q, 0, none⟩)) W := by kernel_rfl
theorem qf1 (W : World) (q : Nat) : (Instr.fieldAt 132 (.pointer (some ⟨q, 0, none⟩)) 1).run Try.prog W = .ok (.pointer (some ⟨q, 1, none⟩)) W := by kernel_rfl
theorem ld_slW {W : World} {a : Addr} {A : Option Addr} {n c : Nat} (h : W.cell? a = some (.slice A n c)) : (Instr.loadAt 30 (.pointer (some a))).run Try.prog W = .ok (.slice A n c) W := by go_simp
theorem st_qsl {W : World} {q : Nat} {r u : Value} {T : TypeId} (hX : Blk W q #[r, u] T) (A : Option Addr) (n c : Nat) : (Instr.storeAt 30 (.pointer (some ⟨q, 1, none⟩)) (.slice A n c)).run Try.prog W = .ok () (W.setCell ⟨q, 1, none⟩ (.slice A n c)) := by
  have c1 := hX.cell 1
  have f1 := hX.free 1
  go_simp
theorem st_li {W : World} {b : Nat} {l m : List Int} (hX : Blk W b (liA l) 29) (hl : l.length = 12) (hm : m.length = 12) : (Instr.storeAt 29 (.pointer (some ⟨b, 0, none⟩)) (.agg (liA m))).run Try.prog W = .ok () (W.setRow b (liA m)) := by
  have hi : (Try.prog.info? 29).map (·.size) = some (liA m).size := by rw [li_size, hm]; kernel_rfl
  simp only [Instr.storeAt, Instr.sureAddr, Sem.run_bind, Sem.run_pure, Result.andThen_ok]
  exact run_storeVar_row W b 29 29 (liA l) (liA m) hX hi (by rw [li_size, li_size, hl, hm]) (li_one m)
theorem qNew_any (room : Int) (w : World) (h1 : 1 ≤ room) (h2 : room ≤ 400) : Calls Try.prog 14 #[.int .i64 room] w fun e w' => ∃ q, e = .returned (.tuple #[.pointer (some ⟨q, 0, none⟩), .int .i64 0]) ∧ w.heap.size ≤ q ∧ QuW w' q room none 0 0 [] ∧ Below w.heap.size w w' := by
  have hX := blk_new w #[.int .i64 room, .slice none 0 0] 132
  have hB := b0 w (.cells #[.int .i64 room, .slice none 0 0] 132)
  have h3 : ¬ room < 1 := by omega
  have h4 : ¬ 400 < room := by omega
  go_enter Try.func14, Try.ntmps14
  go_wp2_with fail
  go_ret2
  exact ⟨_, rfl, Nat.le_refl _, ⟨hX, OwnX.nil _ _ _ _, fun x hx => by simp at hx⟩, hB⟩
theorem qLen_any (q : Nat) (room : Int) (A : Option Addr) (n c : Nat) (ws : List Wr) (w : World) (hQ : QuW w q room A n c ws) : Calls Try.prog 25 #[.pointer (some ⟨q, 0, none⟩)] w fun e w' => e = .returned (.int .i64 (n : Int)) ∧ w' = w := by
  have c1 := hQ.blk.cell 1
  clear hQ
  go_enter Try.func25, Try.ntmps25
  go_wp2_with fail
  go_ret
  exact ⟨rfl, rfl⟩
theorem qList_any (q : Nat) (room : Int) (A : Option Addr) (n c : Nat) (ws : List Wr) (w : World) (hQ : QuW w q room A n c ws) (hm : n ≤ 1000000) : Calls Try.prog 19 #[.pointer (some ⟨q, 0, none⟩)] w (OwnR ws w) := by
  have c1 := hQ.blk.cell 1
  have cl := freshWs_any A n c ws w hQ.len hQ.own.rdw (Nat.le_refl _) hm hQ.fit
  clear hQ
  go_enter Try.func19, Try.ntmps19
  go_wp2_with fail
  refine cl.mono ?_
  rintro e w2 ⟨A2, n2, c2, rfl, hO, hB⟩
  go_wp2_with fail
  go_ret
  exact ⟨A2, n2, c2, rfl, hO, hB⟩
set_option maxRecDepth 100000 in
set_option maxHeartbeats 4000000 in
theorem qLasts_any (q : Nat) (room : Int) (A : Option Addr) (n c : Nat) (ws : List Wr) (l : List Int) (w : World) (hQ : QuW w q room A n c ws) (hl : l.length = 12) (hm : n ≤ 1000000) : Calls Try.prog 73 #[.pointer (some ⟨q, 0, none⟩), .agg (liA l)] w fun e w' => e = .returned (.agg (liA (ofL l ws))) ∧ Below w.heap.size w w' := by
  have hX0 := blk_new w (liA l) 29
  replace hX0 := hX0.alloc (.cells (laI 0 0 0 0 0 0 0 0 0 0 0 0) 29)
  have hz1 : (w.alloc (.cells (liA l) 29)).heap.size = w.heap.size + 1 := by simp
  have hX1 := blk_new (w.alloc (.cells (liA l) 29)) (laI 0 0 0 0 0 0 0 0 0 0 0 0) 29
  rw [hz1] at hX1
  have hB := ba (b0 w (.cells (liA l) 29)) (.cells (laI 0 0 0 0 0 0 0 0 0 0 0 0) 29)
  have hzz : ((w.alloc (.cells (liA l) 29)).alloc (.cells (laI 0 0 0 0 0 0 0 0 0 0 0 0) 29)).heap.size = w.heap.size + 2 := by simp
  go_enter Try.func73, Try.ntmps73
  go_upto_region 1 with fail
  generalize ((w.alloc (.cells (liA l) 29)).alloc (.cells (laI 0 0 0 0 0 0 0 0 0 0 0 0) 29)) = W0 at hX0 hX1 hB hzz ⊢
  (try simp only [hz1])
  clear hz1
  generalize hb : w.heap.size = b at hX0 hX1 hB hzz ⊢
  have hQ0 := hQ.keep (by rw [hb]; exact hB)
  have hqb : q < b := by rw [← hb]; exact hQ.blk.lt
  clear hQ
  have lQ : ∀ W, (Blk W b (liA l) 29 ∧ Blk W q #[.int .i64 room, .slice A n c] 132) → _ := fun W h => ld_slW (h.2.cell 1)
  have l0 : ∀ W, (Blk W b (liA l) 29 ∧ Blk W q #[.int .i64 room, .slice A n c] 132) → _ := fun W h => ld_liL h.1 hl
  have f1 : ∀ W, (Blk W b (liA l) 29 ∧ Blk W q #[.int .i64 room, .slice A n c] 132) → _ := fun W _ => qf1 W q
  refine fh_start (S := (fun W => Blk W b (liA l) 29 ∧ Blk W q #[.int .i64 room, .slice A n c] 132)) (by kernel_rfl) (⟨hX0, hQ0.blk⟩) (fun hS => ?_)
  generalize ha : Act.mk _ _ = a0
  have hn : a0.tmps.size = 11 := by rw [← ha]; kernel_rfl
  have h0 : (fr a0 []).eval (.tmp 0) = .pointer (some ⟨q, 0, none⟩) := by rw [← ha]; kernel_rfl
  refine fh_know hn rfl h0 ?_
  clear h0
  have h3 : (fr a0 [(0, true, .pointer (some ⟨q, 0, none⟩))]).eval (.tmp 3) = .pointer (some ⟨b, 0, none⟩) := by rw [← ha]; kernel_rfl
  refine fh_know hn rfl h3 ?_
  clear h3
  have h4 : (fr a0 [(3, true, .pointer (some ⟨b, 0, none⟩)), (0, true, .pointer (some ⟨q, 0, none⟩))]).eval (.tmp 4) = .pointer (some ⟨b + 1, 0, none⟩) := by rw [← ha]; kernel_rfl
  refine fh_know hn rfl h4 ?_
  clear h4
  refine h_ld 0 hn hS ?_
  refine h_mv 1 hn hS ?_
  refine h_nc 2 hn hS ?_
  refine h_fd 3 hn hS ?_
  refine h_ld 4 hn hS ?_
  refine h_c2 5 en_spinney_roster_Of hn (R := fun v w2 => v = .agg (liA (ofL l ws)) ∧ Below W0.heap.size W0 w2) ((of_any l A n c ws W0.drew hl hQ0.len hQ0.own.rdw (Nat.le_refl _) hm).mono fun _ _ ⟨he, hb2⟩ => ⟨_, he, rfl, (bel_un hb2)⟩) ?_
  rintro v w2 ⟨rfl, hB2⟩
  refine ⟨⟨hX0.keep hB2, hQ0.blk.keep hB2⟩, ?_⟩
  have hX12 := hX1.keep hB2
  have hrow := hX12.row (liA (ofL l ws))
  have ho := only_row w2 (b + 1) (liA (ofL l ws))
  refine h_st 6 (st_li (l := [0, 0, 0, 0, 0, 0, 0, 0, 0, 0, 0, 0]) hX12 rfl (ofL_len hl ws)) ⟨(hX0.keep hB2).only ho (by omega), (hQ0.blk.keep hB2).only ho (by omega)⟩ ?_
  refine fh_end (by kernel_rfl) ?_
  clear hn
  subst ha
  dsimp only [fr, cnd, Act.put, cond_true]
  simp only [List.setIfInBounds_toArray, List.set_cons_zero, List.set_cons_succ]
  have hBn : Below b w _ := (hB.trans (hB2.mono (by omega))).trans (ho.below (by omega))
  clear lQ l0 f1 hX0 hX1 hB hQ0 hB2 hX12 ho
  go_wp2_with fail
  refine bodyPost_ret (results_cell_row Try.results73 _ _ (b + 1) 29 (liA (ofL l ws)) (0, 0) _ (by rfl) hrow Try.underlying29 (by rfl) (by rw [li_size, ofL_len hl ws]; kernel_rfl)) rfl ?_
  exact ⟨rfl, by first | exact hBn | (rw [hb]; exact hBn)⟩
theorem QuW.fitL {W : World} {q : Nat} {room : Int} {A : Option Addr} {n c : Nat} {ws : List Wr} (h : QuW W q room A n c ws) (l : List Int) : ∀ x, x ∈ leftL l ws → Fit x := fun x hx => h.fit x (List.mem_filter.1 hx).1
set_option maxRecDepth 100000 in
set_option maxHeartbeats 4000000 in
theorem qSettle_any (q : Nat) (room : Int) (A : Option Addr) (n c : Nat) (ws : List Wr) (l : List Int) (w : World) (hQ : QuW w q room A n c ws) (hl : Sml l) (hm : n ≤ 1000000) : Calls Try.prog 18 #[.pointer (some ⟨q, 0, none⟩), .agg (liA l)] w fun e w' => e = .returned (.int .i64 ((ws.length : Int) - ((leftL l ws).length : Int))) ∧ ∃ A' n' c', QuW w' q room A' n' c' (leftL l ws) ∧ QuK q A w w' ∧ ∀ a, A' = some a → w.heap.size ≤ a.block := by
  have hX0 := blk_new w (liA l) 29
  have hB := b0 w (.cells (liA l) 29)
  have hzz : (w.alloc (.cells (liA l) 29)).heap.size = w.heap.size + 1 := by simp
  go_enter Try.func18, Try.ntmps18
  go_upto_region 1 with fail
  generalize (w.alloc (.cells (liA l) 29)) = W0 at hX0 hB hzz ⊢
  generalize hb : w.heap.size = b at hX0 hB hzz ⊢
  have hQ0 := hQ.keep (by rw [hb]; exact hB)
  have hqb : q < b := by rw [← hb]; exact hQ.blk.lt
  clear hQ
  have lq := hQ0.blk.cell 1
  go_upto_region 2 with fail
  have hmw : ws.length ≤ 1000000 := by rw [hQ0.len]; exact hm
  clear lq
  have l0 : ∀ W, (Blk W b (liA l) 29 ∧ ∃ A n c, Blk W q #[.int .i64 room, .slice A n c] 132) → _ := fun W h => ld_liL h.1 hl.1
  have f1 : ∀ W, (Blk W b (liA l) 29 ∧ ∃ A n c, Blk W q #[.int .i64 room, .slice A n c] 132) → _ := fun W _ => qf1 W q
  refine fh_start (S := (fun W => (Blk W b (liA l) 29 ∧ ∃ A n c, Blk W q #[.int .i64 room, .slice A n c] 132))) (by kernel_rfl) (⟨hX0, A, n, c, hQ0.blk⟩) (fun hS => ?_)
  generalize ha : Act.mk _ _ = a0
  have hn : a0.tmps.size = 27 := by rw [← ha]; kernel_rfl
  have h0 : (fr a0 []).eval (.tmp 0) = .pointer (some ⟨q, 0, none⟩) := by rw [← ha]; kernel_rfl
  refine fh_know hn rfl h0 ?_
  clear h0
  have h3 : (fr a0 [(0, true, .pointer (some ⟨q, 0, none⟩))]).eval (.tmp 3) = .pointer (some ⟨b, 0, none⟩) := by rw [← ha]; kernel_rfl
  refine fh_know hn rfl h3 ?_
  clear h3
  refine h_mv 0 hn hS ?_
  refine h_ld 1 hn hS ?_
  refine h_mv 2 hn hS ?_
  refine h_nc 3 hn hS ?_
  refine h_fd 4 hn hS ?_
  refine h_one 5 hn hS (fun hk => x_ld (lk_at hk (i := 15) rfl (fun _ => rfl) rfl) (ld_slW (W := W0.drew) (hQ0.blk.cell 1))) ?_
  refine h_c2 6 en_spinney_roster_Left hn (R := fun v w2 => ∃ A2 n2 c2, v = .slice A2 n2 c2 ∧ OwnX tWr 10 W0.heap.size w2 A2 n2 c2 ((leftL l ws).map Wr.cells) ∧ Below W0.heap.size W0 w2) ((left_any l A n c ws W0.drew hl hQ0.len hQ0.own.rdw (Nat.le_refl _) hm hQ0.fit).mono fun e _ h => by
    obtain ⟨A2, n2, c2, rfl, h2, h3⟩ := h
    exact ⟨_, rfl, A2, n2, c2, rfl, h2, (bel_un h3)⟩) ?_
  rintro v w2 ⟨A2, n2, c2, rfl, hO2, hB2⟩
  refine ⟨⟨hX0.keep hB2, A, n, c, hQ0.blk.keep hB2⟩, ?_⟩
  have hS : (Blk w2 b (liA l) 29 ∧ ∃ A n c, Blk w2 q #[.int .i64 room, .slice A n c] 132) := ⟨hX0.keep hB2, A, n, c, hQ0.blk.keep hB2⟩
  refine h_nc 7 hn hS ?_
  refine h_fd 8 hn hS ?_
  have hQ2 := hQ0.blk.keep hB2
  have hQ3 := hQ2.set 1 (.slice A2 n2 c2)
  have ho := only_cell w2 q 1 (.slice A2 n2 c2)
  refine h_st 9 (st_qsl hQ2 A2 n2 c2) ⟨(hX0.keep hB2).only ho (by omega), A2, n2, c2, hQ3⟩ ?_
  refine fh_end (by kernel_rfl) ?_
  clear hn
  subst ha
  dsimp only [fr, cnd, Act.put, cond_true]
  simp only [List.setIfInBounds_toArray, List.set_cons_zero, List.set_cons_succ]
  have hz := hB2.size
  have hO3 : OwnX tWr 10 (q + 1) (w2.setCell ⟨q, 1, none⟩ (.slice A2 n2 c2)) A2 n2 c2 ((leftL l ws).map Wr.cells) := (hO2.onlyG ho (by omega)).less (by omega)
  have hQn : QuW (w2.setCell ⟨q, 1, none⟩ (.slice A2 n2 c2)) q room A2 n2 c2 (leftL l ws) := ⟨hQ3, hO3, hQ0.fitL l⟩
  have hKn : QuK q A w (w2.setCell ⟨q, 1, none⟩ (.slice A2 n2 c2)) := ⟨ho.os.trans (hB2.os.trans hB.os), ho.tape.trans (hB2.tape.trans hB.tape), ho.output.trans (hB2.output.trans hB.output), by have := ho.size; have := hB.size; omega, fun k hk hkq _ => by
    rw [ho.block k hkq, hB2.block k (by have := hB.size; omega), hB.block k (by omega)]⟩
  have hnew : ∀ a, A2 = some a → w.heap.size ≤ a.block := fun a ha => by have := (hO2.blk ha).1; omega
  have hl1 := hQ0.len
  have hl2 := hQn.len
  have hle := leftL_len l ws
  have cq := hQ3.cell 1
  have R : Hid ((n : Int) - (n2 : Int) = (ws.length : Int) - ((leftL l ws).length : Int)) := by show _ = _; omega
  have wr : IntKind.i64.wrap ((n : Int) - (n2 : Int)) = (n : Int) - (n2 : Int) := wrapS (by omega)
  clear l0 f1 hX0 hB hQ0 hB2 hO2 hQ2 hQ3 ho hO3 hl1 hl2 hle hS
  generalize w2.setCell ⟨q, 1, none⟩ (.slice A2 n2 c2) = w3 at *
  go_wp2_with fail
  go_ret
  exact ⟨ret_i64 R.out, A2, n2, c2, hQn, hKn, hnew⟩
end Go.Proofs.Ytkfhkfddhijkcaa

namespace Go.Proofs.Ytkfhkfddhijkcaa
open Go.RowKit

theorem run_apG {P : Program} (w : World) {t t' e' ty el : TypeId} {i : TypeInfo} {z y : Nat} {zv : Value} (ht : P.underlying t = some (.slice el)) (ht' : P.underlying t' = some (.slice e')) (hi : P.info? el = some i) (hz : i.zero = some zv) (hs : i.size = z) (hy : i.bytes = y) (hzs : zv.cells.size = z) (hz0 : 0 < z) (hy0 : y ≤ 1000)
    {base : Nat} {A : Option Addr} {ad : Addr} {n c d : Nat} {l : List (Array Value)} {x : Array Value} (hown : OwnX el z base w A n c l) (hx : x.size = z) (h1 : ∀ u ∈ x.toList, u.oneCell' = true) (hr : ∀ j v, x[j]? = some v → w.cell? (ad.add j) = some v) (hsz : n ≤ 1000000000) (hbase : base ≤ w.heap.size) :
    ∃ A' c' w', (Builtin.append_ #[t, t'] ty #[.slice A n c, .slice (some ad) 1 d]).run P w = .ok (.slice A' (n + 1) c') w' ∧ OwnX el z base w' A' (n + 1) c' (l ++ [x]) ∧ w.grownBy w' (A.map (·.block)) := by
  obtain ⟨v', w', hrun, h2, h3, _, _⟩ := run_append_own_at (P := P) w base t ty el i zv z y ht hi hz hs hy hzs hz0 (.slice A n c) n (celV l) hown.1 ad 1 d x.toList (by rw [Array.length_toList, hx, Nat.one_mul]) (fun j u hu => hr j u (by rw [← Array.getElem?_toList]; exact hu)) h1
    (by unfold maxLen; omega) (Nat.le_trans (Nat.mul_le_mul (show n + 1 ≤ 1000000001 by omega) hy0) (by omega)) hbase
  have hv : ∃ A' c', v' = .slice A' (n + 1) c' := by
    rcases h2.2 with ⟨_, e2⟩ | ⟨g, cap, cur, e1, _⟩
    · omega
    · exact ⟨_, _, e1⟩
  obtain ⟨A', c', rfl⟩ := hv
  refine ⟨A', c', w', by rw [run_append_tt w ht ht']; exact hrun, ⟨?_, ?_, ?_⟩, by cases A <;> exact h3⟩
  · rw [show celV (l ++ [x]) = celV l ++ x.toList by simp [celV]]
    exact h2
  · intro cs hc
    rcases List.mem_append.1 hc with h | h
    · exact hown.2.1 cs h
    · rw [List.mem_singleton.1 h]
      exact hx
  · rw [List.length_append, hown.2.2]
    rfl
/-! Two operations that may come up. -/
section
variable {P : Program} {l : List Oper} {Q : Exit → Act → World → Prop} {S : World → Prop} {fuel : Nat} {listed : Array Bool} {a0 : Act} {L : List (Nat × Bool × Value)} {w : World}
/-- An operation taken now, whatever it does. -/
def FHone (P : Program) (l : List Oper) (Q : Exit → Act → World → Prop) (S : World → Prop) (fuel : Nat) (listed : Array Bool) (a0 : Act) (L : List (Nat × Bool × Value)) (w : World) (i : Nat) : Prop :=
  (∀ p, p ∈ L → p.1 < a0.tmps.size) → wpOp P l.toArray Q i (fun a' w' => S w' ∧ wpAnyH P .any l.toArray Q S fuel (listed.setIfInBounds i true) a' w') (fr a0 L) w
theorem fh_two {i j : Nat} (hr : Region.ready .any l.toArray listed = [i, j]) (h1 : FHone P l Q S fuel listed a0 L w i) (h2 : FHone P l Q S fuel listed a0 L w j) : FH P l Q S (fuel + 1) listed a0 L w := by
  refine ⟨fun hk => wpAnyH_all hr (by simp) fun m hm => ?_⟩
  rcases List.mem_cons.1 hm with rfl | hm
  · exact h1 hk
  · have e : m = j := by simpa using hm
    subst e
    exact h2 hk
theorem one_valx {i : Nat} {oi : Oper} {d n : Nat} {v : Value} {w2 : World} (hn : a0.tmps.size = n) (ho : oi.dst = some d) (hx : (∀ p, p ∈ L → p.1 < a0.tmps.size) → (execOp (fr a0 L).eval oi).run P w = .ok (.value v) w2)
    (hS : S w2) (h : FH P l Q S fuel (listed.setIfInBounds i true) a0 ((d, true, v) :: L) w2) (hi : l.toArray[i]? = some oi) (hd : Nat.blt d n = true) (hw : wtG l L oi.guard = some true) : FHone P l Q S fuel listed a0 L w i := by
  intro hk
  unfold wpOp
  simp only [hi, wt_is hk hw, if_true]
  refine .inl ?_
  unfold Oper.wp
  rw [hx hk, Oper.upon_value, ho]
  exact ⟨hS, h.go (fun p hp => by
    rcases List.mem_cons.1 hp with e | e
    · rw [e, hn]; exact blt_lt hd
    · exact hk p e)⟩
end
theorem x_ap {P : Program} {w w2 : World} {i j : Nat} {ts : Array TypeId} {ty : TypeId} {d : Option Tmp} {p : String} {af : Array Edge} {gd : Option (Nat × Bool)} {ρ : Operand → Value} {vi vj v : Value} (h1 : ρ (.tmp i) = vi) (h2 : ρ (.tmp j) = vj) (hr : (Builtin.append_ ts ty #[vi, vj]).run P w = .ok v w2) :
    (execOp ρ ⟨d, .call { callee := .builtin .append, args := #[.tmp i, .tmp j], argTypes := ts }, ty, p, af, gd⟩).run P w = .ok (.value v) w2 := by
  unfold execOp
  simp only [resolve, invoke, builtin, Sem.run_bind, Sem.run_pure, Result.andThen_ok, List.map_toArray, List.map_cons, List.map_nil, h1, h2, hr]
theorem x_cp {P : Program} {w w2 : World} {i j : Nat} {ts : Array TypeId} {ty : TypeId} {d : Option Tmp} {p : String} {af : Array Edge} {gd : Option (Nat × Bool)} {ρ : Operand → Value} {vi vj v : Value} (h1 : ρ (.tmp i) = vi) (h2 : ρ (.tmp j) = vj) (hr : (Builtin.copy_ ts ty #[vi, vj]).run P w = .ok v w2) :
    (execOp ρ ⟨d, .call { callee := .builtin .copy, args := #[.tmp i, .tmp j], argTypes := ts }, ty, p, af, gd⟩).run P w = .ok (.value v) w2 := by
  unfold execOp
  simp only [resolve, invoke, builtin, Sem.run_bind, Sem.run_pure, Result.andThen_ok, List.map_toArray, List.map_cons, List.map_nil, h1, h2, hr]
end Go.Proofs.Ytkfhkfddhijkcaa

namespace Go.Proofs.Ytkfhkfddhijkcaa
open Go.RowKit

section
variable {P : Program} {l : List Oper} {Q : Exit → Act → World → Prop} {S : World → Prop} {fuel : Nat} {listed : Array Bool} {a0 : Act} {L : List (Nat × Bool × Value)} {w : World}
theorem one_val {i : Nat} {oi : Oper} {d n : Nat} {R : Value → World → Prop} (hn : a0.tmps.size = n) (hX : ∀ K : Act → World → Prop, (∀ v w2, R v w2 → K ((fr a0 L).put (some d) v) w2) → (∀ p, p ∈ L → p.1 < a0.tmps.size) → oi.wp P (fr a0 L) w K Q)
    (h : ∀ v w2, R v w2 → S w2 ∧ FH P l Q S fuel (listed.setIfInBounds i true) a0 ((d, true, v) :: L) w2) (hi : l.toArray[i]? = some oi) (hd : Nat.blt d n = true) (hw : wtG l L oi.guard = some true) : FHone P l Q S fuel listed a0 L w i := by
  intro hk
  unfold wpOp
  simp only [hi, wt_is hk hw, if_true]
  refine .inl (hX _ (fun v w2 hR => ?_) hk)
  obtain ⟨hs, hF⟩ := h v w2 hR
  exact ⟨hs, hF.go (fun p hp => by
    rcases List.mem_cons.1 hp with e | e
    · rw [e, hn]; exact blt_lt hd
    · exact hk p e)⟩
theorem one_callx {i : Nat} {oi : Oper} {d n : Nat} {R : Value → World → Prop} {f : FuncId} {args : Array Value} (hn : a0.tmps.size = n) (ho : oi.dst = some d) (hx : (∀ p, p ∈ L → p.1 < a0.tmps.size) → (execOp (fr a0 L).eval oi).run P w = .ok (.enter f args) w) (hc : Calls P f args w fun e w' => ∃ v, e = .returned v ∧ R v w')
    (h : ∀ v w2, R v w2 → S w2 ∧ FH P l Q S fuel (listed.setIfInBounds i true) a0 ((d, true, v) :: L) w2) (hi : l.toArray[i]? = some oi) (hd : Nat.blt d n = true) (hw : wtG l L oi.guard = some true) : FHone P l Q S fuel listed a0 L w i :=
  one_val hn (fun K hK hk => by
    unfold Oper.wp
    rw [hx hk, Oper.upon_enter]
    refine hc.mono ?_
    rintro e w' ⟨v, rfl, hR⟩
    show K ((fr a0 L).put oi.dst v) w'
    rw [ho]
    exact hK v w' hR) h hi hd hw
end
theorem x_bsW {w : World} {ρ : Operand → Value} {d : Option Tmp} {i : Nat} {ty : TypeId} {p : String} {af : Array Edge} {gd : Option (Nat × Bool)} {x : Wr} (h : ρ (.tmp i) = .agg x.cells) : (execOp ρ ⟨d, .buildSlice 30 1 #[(0, .tmp i)], ty, p, af, gd⟩).run Try.prog w = .ok (.value (.slice (some ⟨w.heap.size, 0, none⟩) 1 1)) (w.alloc (.cells x.cells tWr)) := by
  have e : (#[(0, Operand.tmp i)] : Array (Nat × Operand)).map (fun y => (y.fst, ρ y.snd)) = #[(0, .agg x.cells)] := by simp only [List.map_toArray, List.map_cons, List.map_nil, h]
  have h2 := bs1W x w
  rw [← e] at h2
  unfold execOp
  dsimp only
  rw [Sem.run_bind]
  exact (congrArg (fun r => Result.andThen r _) h2).trans rfl
theorem qrun_ap {W : World} {q : Nat} {A : Option Addr} {n c g : Nat} {ws : List Wr} {x : Wr} (hO : OwnX tWr 10 (q + 1) W A n c (ws.map Wr.cells)) (hY : Blk W g x.cells tWr) (hn : n ≤ 1000) (hb : q + 1 ≤ W.heap.size) : ∃ A' c' w', (∀ ty, (Builtin.append_ #[30, 30] ty #[.slice A n c, .slice (some ⟨g, 0, none⟩) 1 1]).run Try.prog W = .ok (.slice A' (n + 1) c') w') ∧ OwnX tWr 10 (q + 1) w' A' (n + 1) c' ((ws ++ [x]).map Wr.cells) ∧ Below (q + 1) W w' ∧ (∀ k, k < W.heap.size → (∀ a, A = some a → a.block ≠ k) → w'.heap[k]? = W.heap[k]?) ∧ (A'.map (·.block) = A.map (·.block) ∨ A'.map (·.block) = some W.heap.size) := by
  obtain ⟨i0, hi0, hz0, hs0, hb0⟩ := info_parts wr_infoM
  obtain ⟨A', c', w', h1, h2, h3, _, h5, h6⟩ := run_apM (P := Try.prog) (ty := 0) (d := 1) W Try.underlying30 Try.underlying30 hi0 hz0 hs0 hb0 (by rfl) (by omega) (by omega) hO (wr_szd [x]) rfl (wr_ones [x]) (blk_rdw hY).cells (by show n + 1 ≤ _; omega) hb (.inr Nat.one_ne_zero)
  refine ⟨A', c', w', fun ty => h1, by rw [List.map_append]; exact h2, h3, h5, h6⟩
/-- What Take answers. -/
def takeI (room : Int) (l : List Int) (ws : List Wr) (x : Wr) : Int := if askI (ofL l ws) x.dev x.seq = 0 then (if room ≤ (ws.length : Int) then 3 else 0) else askI (ofL l ws) x.dev x.seq
/-- What a Take leaves. -/
def QTook (q : Nat) (room : Int) (A : Option Addr) (n c : Nat) (ws : List Wr) (x : Wr) (code : Int) (w w' : World) : Prop :=
  (code ≠ 0 ∧ QuW w' q room A n c ws ∧ Below w.heap.size w w') ∨
  (code = 0 ∧ ∃ A' n' c', QuW w' q room A' n' c' (ws ++ [x]) ∧ QuK q A w w' ∧ (A'.map (·.block) = A.map (·.block) ∨ ∀ a, A' = some a → w.heap.size ≤ a.block))
set_option maxRecDepth 100000 in
set_option maxHeartbeats 4000000 in
theorem qTake_any (q : Nat) (room : Int) (A : Option Addr) (n c : Nat) (ws : List Wr) (l : List Int) (x : Wr) (w : World) (hQ : QuW w q room A n c ws) (hl : l.length = 12) (hs : Sml (ofL l ws)) (hx : Fit x) (hm : n ≤ 1000) : Calls Try.prog 20 #[.pointer (some ⟨q, 0, none⟩), .agg (liA l), .agg x.cells] w fun e w' => e = .returned (.int .i64 (takeI room l ws x)) ∧ QTook q room A n c ws x (takeI room l ws x) w w' := by
  have HT : Hid (takeI room l ws x = if askI (ofL l ws) x.dev x.seq = 0 then (if room ≤ (ws.length : Int) then 3 else 0) else askI (ofL l ws) x.dev x.seq) := by show _ = _; rfl
  have hX0 := blk_new w (liA l) 29
  replace hX0 := hX0.alloc (.cells x.cells 39)
  have hz1 : (w.alloc (.cells (liA l) 29)).heap.size = w.heap.size + 1 := by simp
  have hX1 := blk_new (w.alloc (.cells (liA l) 29)) x.cells 39
  rw [hz1] at hX1
  have hB := ba (b0 w (.cells (liA l) 29)) (.cells x.cells 39)
  have hzz : ((w.alloc (.cells (liA l) 29)).alloc (.cells x.cells 39)).heap.size = w.heap.size + 2 := by simp
  go_enter Try.func20, Try.ntmps20
  go_upto_region 1 with fail
  generalize ((w.alloc (.cells (liA l) 29)).alloc (.cells x.cells 39)) = W0 at hX0 hX1 hB hzz ⊢
  (try simp only [hz1])
  clear hz1
  generalize hb : w.heap.size = b at hX0 hX1 hB hzz ⊢
  have hQ0 := hQ.keep (by rw [hb]; exact hB)
  have hqb : q < b := by rw [← hb]; exact hQ.blk.lt
  have hA0 : ∀ a, A = some a → a.block < b := fun a ha => by rw [← hb]; exact (hQ.own.blk ha).2
  clear hQ
  have hwl := hQ0.len
  have l0 : ∀ W, Kp W0 W → _ := fun W h => ld_liL (h.blk hX0) hl
  have f0 : ∀ W, Kp W0 W → _ := fun W _ => wfd0 W ⟨b + 1, 0, none⟩
  have i0 : ∀ W, Kp W0 W → (Instr.loadAt 32 (.pointer (some ⟨b + 1, 0, none⟩))).run Try.prog W = .ok (.agg #[.int .i64 x.dev, .int .i64 x.seq]) W := fun W h => ild ((h.blk hX1).cell 0) ((h.blk hX1).cell 1)
  refine fh_start (S := Kp W0) (by kernel_rfl) (Kp.drew _) (fun hS => ?_)
  generalize ha : Act.mk _ _ = a0
  have hn : a0.tmps.size = 38 := by rw [← ha]; kernel_rfl
  have h0 : (fr a0 []).eval (.tmp 0) = .pointer (some ⟨q, 0, none⟩) := by rw [← ha]; kernel_rfl
  refine fh_know hn rfl h0 ?_
  clear h0
  have h4 : (fr a0 [(0, true, .pointer (some ⟨q, 0, none⟩))]).eval (.tmp 4) = .pointer (some ⟨b, 0, none⟩) := by rw [← ha]; kernel_rfl
  refine fh_know hn rfl h4 ?_
  clear h4
  have h5 : (fr a0 [(4, true, .pointer (some ⟨b, 0, none⟩)), (0, true, .pointer (some ⟨q, 0, none⟩))]).eval (.tmp 5) = .pointer (some ⟨b + 1, 0, none⟩) := by rw [← ha]; kernel_rfl
  refine fh_know hn rfl h5 ?_
  clear h5
  refine h_mv 0 hn hS ?_
  refine h_ld 1 hn hS ?_
  refine h_fd 3 hn hS ?_
  refine h_ld 4 hn hS ?_
  refine h_c2 2 en_spinney_queue_Queue_Lasts hn (R := fun v w2 => v = .agg (liA (ofL l ws)) ∧ Kp W0 w2) ((qLasts_any q room A n c ws l W0.drew (hQ0.keep hS.below) hl (by omega)).mono fun _ _ ⟨he, hb2⟩ => ⟨_, he, rfl, hS.trans hb2⟩) ?_
  rintro v wn ⟨rfl, hSn⟩
  refine ⟨hSn, ?_⟩
  replace hS := hSn
  clear hSn
  refine h_c2 5 en_spinney_roster_Ask hn (R := fun v w2 => v = .int .i64 (askI (ofL l ws) x.dev x.seq) ∧ Kp W0 w2) ((ask_any (ofL l ws) x.dev x.seq wn hs).mono fun _ _ ⟨he, hb2⟩ => ⟨_, he, rfl, hS.trans hb2⟩) ?_
  rintro v w1 ⟨rfl, hSn⟩
  refine ⟨hSn, ?_⟩
  replace hS := hSn
  clear hSn
  refine h_as 6 hn hS ?_
  refine fh_end (by kernel_rfl) ?_
  clear hn
  subst ha
  dsimp only [fr, cnd, Act.put, cond_true]
  simp only [List.setIfInBounds_toArray, List.set_cons_zero, List.set_cons_succ]
  have hQ1 := hQ0.keep hS.below
  have hX1' := hS.blk hX1
  have hB1 : Below b w w1 := hB.trans (hS.below.mono (by omega))
  have hz1 : b + 2 ≤ w1.heap.size := by have := hS.below.size; omega
  clear l0 f0 i0 hX0 hX1 hB hQ0 hs hS
  generalize askI (ofL l ws) x.dev x.seq = a at *
  by_cases ha : a = 0
  rotate_left
  · have R : Hid (takeI room l ws x = a) := by show _ = _; rw [HT.out, if_neg ha]
    have hi : (a == 0) = false := by simpa using ha
    clear HT hX1'
    go_wp2_with fail
    go_ret
    rw [R.out]
    exact ⟨rfl, .inl ⟨ha, hQ1, by first | (rw [hb]; exact hB1) | exact hB1⟩⟩
  subst ha
  rw [if_pos rfl] at HT
  have cq0 : ∀ W, Kp w1 W → (Instr.loadAt 3 (.pointer (some ⟨q, 0, none⟩))).run Try.prog W = .ok (.int .i64 room) W := fun W h => load_int ((h.blk hQ1.blk).cell 0)
  have cq1 : ∀ W, Kp w1 W → _ := fun W h => ld_slW ((h.blk hQ1.blk).cell 1)
  have f0 : ∀ W, Kp w1 W → _ := fun W _ => qf0 W q
  have f1 : ∀ W, Kp w1 W → _ := fun W _ => qf1 W q
  go_upto_region 4 with fail
  refine fc_start (S := Kp w1) (by kernel_rfl) (Kp.drew _) ?_
  generalize ha : Act.mk _ _ = a0
  have hn : a0.tmps.size = 38 := by rw [← ha]; kernel_rfl
  have h0 : (fr a0 []).eval (.tmp 0) = .pointer (some ⟨q, 0, none⟩) := by rw [← ha]; kernel_rfl
  refine fc_know hn rfl h0 ?_
  clear h0
  refine c_mv 0 hn ?_
  refine c_nc 1 hn ?_
  refine c_fd 2 hn ?_
  refine c_ld 3 hn ?_
  refine c_ln 4 hn ?_
  refine c_mv 5 hn ?_
  refine c_nc 6 hn ?_
  refine c_fd 7 hn ?_
  refine c_ld 8 hn ?_
  refine c_geq2 9 hn ?_
  refine fc_end (fun w2 hS => ?_)
  clear hn
  subst ha
  dsimp only [fr, cnd, Act.put, cond_true]
  simp only [List.setIfInBounds_toArray, List.set_cons_zero, List.set_cons_succ]
  have hQ2 := hQ1.keep hS.below
  have hX2 := hS.blk hX1'
  have hB2 : Below b w w2 := hB1.trans (hS.below.mono (by omega))
  have hz2 : b + 2 ≤ w2.heap.size := by have := hS.below.size; omega
  clear cq0 cq1 f0 f1 hQ1 hX1' hB1 hz1 hS
  by_cases hr : room ≤ (n : Int)
  · have R : Hid (takeI room l ws x = 3) := by show _ = _; rw [HT.out, hwl, if_pos hr]
    rw [decide_eq_true hr]
    clear HT hX2
    go_wp2_with fail
    go_ret
    rw [R.out]
    exact ⟨rfl, .inl ⟨by decide, hQ2, by first | (rw [hb]; exact hB2) | exact hB2⟩⟩
  rw [decide_eq_false hr]
  have R : Hid (takeI room l ws x = 0) := by show _ = _; rw [HT.out, hwl, if_neg hr]
  clear HT hr
  have l5 : ∀ W, (Blk W (b + 1) x.cells 39 ∧ ∃ A n c, Blk W q #[.int .i64 room, .slice A n c] 132) → _ := fun W h => wld_blk h.1
  have f1 : ∀ W, (Blk W (b + 1) x.cells 39 ∧ ∃ A n c, Blk W q #[.int .i64 room, .slice A n c] 132) → _ := fun W _ => qf1 W q
  have hbs := bs1W x
  go_upto_region 6 with fail
  refine fh_start (S := (fun W => (Blk W (b + 1) x.cells 39 ∧ ∃ A n c, Blk W q #[.int .i64 room, .slice A n c] 132))) (by kernel_rfl) (⟨hX2, A, n, c, hQ2.blk⟩) (fun hS => ?_)
  generalize ha : Act.mk _ _ = a0
  have hn : a0.tmps.size = 38 := by rw [← ha]; kernel_rfl
  have h0 : (fr a0 []).eval (.tmp 0) = .pointer (some ⟨q, 0, none⟩) := by rw [← ha]; kernel_rfl
  refine fh_know hn rfl h0 ?_
  clear h0
  have h5 : (fr a0 [(0, true, .pointer (some ⟨q, 0, none⟩))]).eval (.tmp 5) = .pointer (some ⟨b + 1, 0, none⟩) := by rw [← ha]; kernel_rfl
  refine fh_know hn rfl h5 ?_
  clear h5
  refine h_mv 0 hn hS ?_
  refine h_mv 1 hn hS ?_
  refine h_nc 2 hn hS ?_
  refine h_fd 3 hn hS ?_
  refine h_ld 5 hn hS ?_
  refine fh_two (i := 4) (j := 6) (by kernel_rfl) ?_ ?_
  · refine one_valx (d := 31) (v := .slice A n c) (w2 := World.drew w2) hn rfl (fun hk => x_ld (lk_at hk (i := 30) rfl (fun _ => rfl) rfl) (ld_slW (W := w2.drew) (hQ2.blk.cell 1))) ⟨hX2, A, n, c, hQ2.blk⟩ ?_ rfl rfl rfl
    refine fh_callx 6 (d := 33) (R := (fun v w4 => v = .agg x.cells ∧ Below w2.drew.heap.size w2.drew w4)) hn rfl (fun hk => call1_is en_spinney_fresh_Write _ _ _ _ _ _ _ _ (.agg x.cells) (lk_at hk (i := 32) rfl (fun _ => rfl) rfl) rfl) ((freshWr_any x w2.drew hx.1 hx.2.1 hx.2.2).mono fun _ _ ⟨he, hb2⟩ => ⟨_, he, rfl, hb2⟩) ?_ rfl rfl (by kernel_rfl) rfl
    rintro v w4 ⟨rfl, hB4⟩
    replace hB4 : Below w2.heap.size w2 w4 := bel_un hB4
    have hX4 := hX2.keep hB4
    have hQ4 := hQ2.keep hB4
    have hX5 : Blk (w4.alloc (.cells x.cells tWr)) (b + 1) x.cells 39 := hX4.alloc _
    have hQ5 := hQ4.keep (b0 w4 (.cells x.cells tWr))
    have hz4 := hB4.size
    have hz5 : (w4.alloc (.cells x.cells tWr)).heap.size = w4.heap.size + 1 := by simp
    obtain ⟨A', c', w6, hrun, hO6, hB6, hne, hA'⟩ := qrun_ap (x := x) hQ5.own (blk_new w4 x.cells tWr) hm (by have := hQ5.blk.lt; omega)
    have hX6 : Blk w6 (b + 1) x.cells 39 := (hne (b + 1) (by omega) (fun a ha => by have := hA0 a ha; omega)).trans hX5
    have hQ6 : Blk w6 q #[.int .i64 room, .slice A n c] 132 := (hne q (by omega) (fun a ha => by have := hQ5.above a ha; omega)).trans hQ5.blk
    have ho := only_cell w6 q 1 (.slice A' (n + 1) c')
    have HQ : Hid (QuW (w6.setCell ⟨q, 1, none⟩ (.slice A' (n + 1) c')) q room A' (n + 1) c' (ws ++ [x])) := ⟨hQ6.set 1 (.slice A' (n + 1) c'), hO6.onlyG ho (by omega), fun y hy => by
      rcases List.mem_append.1 hy with h | h
      · exact hQ2.fit y h
      · rw [show y = x by simpa using h]; exact hx⟩
    have hBw : Below b w (w4.alloc (.cells x.cells tWr)) := (hB2.trans (hB4.mono (by omega))).alloc (by omega) _
    have HK : Hid (QuK q A w (w6.setCell ⟨q, 1, none⟩ (.slice A' (n + 1) c'))) := ⟨ho.os.trans (hB6.os.trans hBw.os), ho.tape.trans (hB6.tape.trans hBw.tape), ho.output.trans (hB6.output.trans hBw.output), by have := ho.size; have := hB6.size; have := hBw.size; omega, fun k hk hkq hka => by
      rw [ho.block k hkq, hne k (by omega) hka, hBw.block k (by omega)]⟩
    have HA : Hid (A'.map (·.block) = A.map (·.block) ∨ ∀ a, A' = some a → w.heap.size ≤ a.block) := by
      show _ ∨ _
      rcases hA' with h | h
      · exact .inl h
      · exact .inr fun a ha => by
          rw [ha] at h
          injection h with h
          have h : a.block = (w4.alloc (.cells x.cells tWr)).heap.size := h
          omega
    refine ⟨⟨hX4, A, n, c, hQ4.blk⟩, ?_⟩
    refine fh_valx 7 (d := 34) hn rfl (fun hk => x_bsW (lk_at hk (i := 33) rfl (fun _ => rfl) rfl)) ⟨hX5, A, n, c, hQ5.blk⟩ ?_ rfl rfl (by kernel_rfl) rfl
    refine fh_valx 8 (d := 35) hn rfl (fun hk => x_ap (lk_at hk (i := 31) rfl (fun _ => rfl) rfl) (lk_at hk (i := 34) rfl (fun _ => rfl) rfl) (hrun _)) ⟨hX6, A, n, c, hQ6⟩ ?_ rfl rfl (by kernel_rfl) rfl
    refine h_nc 9 hn ⟨hX6, A, n, c, hQ6⟩ ?_
    refine h_fd 10 hn ⟨hX6, A, n, c, hQ6⟩ ?_
    refine h_st 11 (st_qsl hQ6 A' (n + 1) c') ⟨hX6.only ho (by omega), A', n + 1, c', hQ6.set 1 (.slice A' (n + 1) c')⟩ ?_
    refine fh_end (by kernel_rfl) ?_
    clear hn
    subst ha
    dsimp only [fr, cnd, Act.put, cond_true]
    simp only [List.setIfInBounds_toArray, List.set_cons_zero, List.set_cons_succ]
    clear l5 f1 hbs
    go_wp2_with fail
    go_ret
    rw [R.out]
    exact ⟨rfl, .inr ⟨rfl, A', n + 1, c', HQ.out, HK.out, HA.out⟩⟩
  · refine one_callx (d := 33) (R := (fun v w4 => v = .agg x.cells ∧ Below w2.drew.heap.size w2.drew w4)) hn rfl (fun hk => call1_is en_spinney_fresh_Write _ _ _ _ _ _ _ _ (.agg x.cells) (lk_at hk (i := 32) rfl (fun _ => rfl) rfl) rfl) ((freshWr_any x w2.drew hx.1 hx.2.1 hx.2.2).mono fun _ _ ⟨he, hb2⟩ => ⟨_, he, rfl, hb2⟩) ?_ rfl rfl rfl
    rintro v w4 ⟨rfl, hB4⟩
    replace hB4 : Below w2.heap.size w2 w4 := bel_un hB4
    have hX4 := hX2.keep hB4
    have hQ4 := hQ2.keep hB4
    have hX5 : Blk (w4.alloc (.cells x.cells tWr)) (b + 1) x.cells 39 := hX4.alloc _
    have hQ5 := hQ4.keep (b0 w4 (.cells x.cells tWr))
    have hz4 := hB4.size
    have hz5 : (w4.alloc (.cells x.cells tWr)).heap.size = w4.heap.size + 1 := by simp
    obtain ⟨A', c', w6, hrun, hO6, hB6, hne, hA'⟩ := qrun_ap (x := x) hQ5.own (blk_new w4 x.cells tWr) hm (by have := hQ5.blk.lt; omega)
    have hX6 : Blk w6 (b + 1) x.cells 39 := (hne (b + 1) (by omega) (fun a ha => by have := hA0 a ha; omega)).trans hX5
    have hQ6 : Blk w6 q #[.int .i64 room, .slice A n c] 132 := (hne q (by omega) (fun a ha => by have := hQ5.above a ha; omega)).trans hQ5.blk
    have ho := only_cell w6 q 1 (.slice A' (n + 1) c')
    have HQ : Hid (QuW (w6.setCell ⟨q, 1, none⟩ (.slice A' (n + 1) c')) q room A' (n + 1) c' (ws ++ [x])) := ⟨hQ6.set 1 (.slice A' (n + 1) c'), hO6.onlyG ho (by omega), fun y hy => by
      rcases List.mem_append.1 hy with h | h
      · exact hQ2.fit y h
      · rw [show y = x by simpa using h]; exact hx⟩
    have hBw : Below b w (w4.alloc (.cells x.cells tWr)) := (hB2.trans (hB4.mono (by omega))).alloc (by omega) _
    have HK : Hid (QuK q A w (w6.setCell ⟨q, 1, none⟩ (.slice A' (n + 1) c'))) := ⟨ho.os.trans (hB6.os.trans hBw.os), ho.tape.trans (hB6.tape.trans hBw.tape), ho.output.trans (hB6.output.trans hBw.output), by have := ho.size; have := hB6.size; have := hBw.size; omega, fun k hk hkq hka => by
      rw [ho.block k hkq, hne k (by omega) hka, hBw.block k (by omega)]⟩
    have HA : Hid (A'.map (·.block) = A.map (·.block) ∨ ∀ a, A' = some a → w.heap.size ≤ a.block) := by
      show _ ∨ _
      rcases hA' with h | h
      · exact .inl h
      · exact .inr fun a ha => by
          rw [ha] at h
          injection h with h
          have h : a.block = (w4.alloc (.cells x.cells tWr)).heap.size := h
          omega
    refine ⟨⟨hX4, A, n, c, hQ4.blk⟩, ?_⟩
    refine fh_two (i := 4) (j := 7) (by kernel_rfl) ?_ ?_
    · refine one_valx (d := 31) (v := .slice A n c) (w2 := w4) hn rfl (fun hk => x_ld (lk_at hk (i := 30) rfl (fun _ => rfl) rfl) (ld_slW (W := w4) (hQ4.blk.cell 1))) ⟨hX4, A, n, c, hQ4.blk⟩ ?_ rfl rfl rfl
      refine fh_valx 7 (d := 34) hn rfl (fun hk => x_bsW (lk_at hk (i := 33) rfl (fun _ => rfl) rfl)) ⟨hX5, A, n, c, hQ5.blk⟩ ?_ rfl rfl (by kernel_rfl) rfl
      refine fh_valx 8 (d := 35) hn rfl (fun hk => x_ap (lk_at hk (i := 31) rfl (fun _ => rfl) rfl) (lk_at hk (i := 34) rfl (fun _ => rfl) rfl) (hrun _)) ⟨hX6, A, n, c, hQ6⟩ ?_ rfl rfl (by kernel_rfl) rfl
      refine h_nc 9 hn ⟨hX6, A, n, c, hQ6⟩ ?_
      refine h_fd 10 hn ⟨hX6, A, n, c, hQ6⟩ ?_
      refine h_st 11 (st_qsl hQ6 A' (n + 1) c') ⟨hX6.only ho (by omega), A', n + 1, c', hQ6.set 1 (.slice A' (n + 1) c')⟩ ?_
      refine fh_end (by kernel_rfl) ?_
      clear hn
      subst ha
      dsimp only [fr, cnd, Act.put, cond_true]
      simp only [List.setIfInBounds_toArray, List.set_cons_zero, List.set_cons_succ]
      clear l5 f1 hbs
      go_wp2_with fail
      go_ret
      rw [R.out]
      exact ⟨rfl, .inr ⟨rfl, A', n + 1, c', HQ.out, HK.out, HA.out⟩⟩
    · refine one_valx (d := 34) hn rfl (fun hk => x_bsW (lk_at hk (i := 33) rfl (fun _ => rfl) rfl)) ⟨hX5, A, n, c, hQ5.blk⟩ ?_ rfl rfl rfl
      refine fh_valx 4 (d := 31) (v := .slice A n c) hn rfl (fun hk => x_ld (lk_at hk (i := 30) rfl (fun _ => rfl) rfl) (ld_slW (W := (w4.alloc (.cells x.cells tWr))) (hQ5.blk.cell 1))) ⟨hX5, A, n, c, hQ5.blk⟩ ?_ rfl rfl (by kernel_rfl) rfl
      refine fh_valx 8 (d := 35) hn rfl (fun hk => x_ap (lk_at hk (i := 31) rfl (fun _ => rfl) rfl) (lk_at hk (i := 34) rfl (fun _ => rfl) rfl) (hrun _)) ⟨hX6, A, n, c, hQ6⟩ ?_ rfl rfl (by kernel_rfl) rfl
      refine h_nc 9 hn ⟨hX6, A, n, c, hQ6⟩ ?_
      refine h_fd 10 hn ⟨hX6, A, n, c, hQ6⟩ ?_
      refine h_st 11 (st_qsl hQ6 A' (n + 1) c') ⟨hX6.only ho (by omega), A', n + 1, c', hQ6.set 1 (.slice A' (n + 1) c')⟩ ?_
      refine fh_end (by kernel_rfl) ?_
      clear hn
      subst ha
      dsimp only [fr, cnd, Act.put, cond_true]
      simp only [List.setIfInBounds_toArray, List.set_cons_zero, List.set_cons_succ]
      clear l5 f1 hbs
      go_wp2_with fail
      go_ret
      rw [R.out]
      exact ⟨rfl, .inr ⟨rfl, A', n + 1, c', HQ.out, HK.out, HA.out⟩⟩
end Go.Proofs.Ytkfhkfddhijkcaa

namespace Go.Proofs.Ytkfhkfddhijkcaa
open Go.RowKit
attribute [local go_sem ↓] Go.wp_at_zero Go.wp_at_succ

theorem str_ext {a b : ByteArray} (h : a.toList = b.toList) : a = b := by
  rw [ByteArray.toList_eq, ByteArray.toList_eq] at h
  cases a
  cases b
  simp only at h
  congr 1
  exact Array.toList_inj.1 h
theorem wr_neq {x y : Wr} (h : x ≠ y) (W : World) : (binOp .neq 39 (.agg x.cells) (.agg y.cells)).run Try.prog W = .ok (.bool true) W := by
  go_simp
  intro h0 h1 h2 h3 h4 h5 h6 h7 h8 h9
  refine h ?_
  have e3 := str_ext h3
  have e6 := str_ext h6
  have e9 := str_ext h9
  cases x
  cases y
  simp only at h0 h1 h2 e3 h4 h5 e6 h7 h8 e9
  simp only [h0, h1, h2, e3, h4, h5, e6, h7, h8, e9]
theorem wr_eq (x : Wr) (W : World) : (binOp .neq 39 (.agg x.cells) (.agg x.cells)).run Try.prog W = .ok (.bool false) W := by
  go_simp
open Classical in
/-- The same lists? -/
noncomputable def sameW (l l2 : List Wr) : Bool := decide (l = l2)
theorem sameW_iff (l l2 : List Wr) : sameW l l2 = true ↔ l = l2 := by
  unfold sameW
  simp
theorem sameW_no {l l2 : List Wr} (h : l ≠ l2) : sameW l l2 = false := Bool.eq_false_iff.2 fun e => h ((sameW_iff l l2).1 e)
theorem sameW_yes {l l2 : List Wr} (h : l = l2) : sameW l l2 = true := (sameW_iff l l2).2 h

set_option maxRecDepth 100000 in
set_option maxHeartbeats 4000000 in
theorem refWrSame_any {B C : Nat} (A A2 : Option Addr) (n c m d : Nat) (l l2 : List Wr) (w : World) (hn : l.length = n) (hr : RdW B w A l) (_hB : B ≤ w.heap.size) (hm : n ≤ 1000000) (hn2 : l2.length = m) (hr2 : RdW C w A2 l2) (_hC : C ≤ w.heap.size) :
    Calls Try.prog 22 #[.slice A n c, .slice A2 m d] w fun e w' => e = .returned (.bool (sameW l l2)) ∧ Drn w w' := by
  have HN := Lib.hid hn
  have HN2 := Lib.hid hn2
  by_cases hnm : n = m
  · subst hnm
    clear hn hn2
    go_enter Try.func22, Try.ntmps22
    go_wp2_with fail
    go_loopw [13] (fun i wr => ∃ k : Nat, k ≤ n ∧ i = .int .i64 k ∧ Hid (l.take k = l2.take k) ∧ Drn w wr) (fun i _ => n - (intOf i).toNat)
    case atStart => exact ⟨0, Nat.zero_le _, rfl, rfl, Drn.refl _⟩
    case round =>
      obtain ⟨k, hk, rfl, hA, hD⟩ := hrel
      by_cases hlt : k < n
      · obtain ⟨x, hx⟩ : ∃ x, l[k]? = some x := ⟨_, List.getElem?_eq_getElem (show k < l.length by have := HN.out; omega)⟩
        obtain ⟨y, hy⟩ : ∃ y, l2[k]? = some y := ⟨_, List.getElem?_eq_getElem (show k < l2.length by have := HN2.out; omega)⟩
        obtain ⟨ad, rfl, _, hc⟩ := (hr.keep (hD.below B) (Nat.le_refl _)) k x hx
        obtain ⟨ad2, rfl, _, hc2⟩ := (hr2.keep (hD.below C) (Nat.le_refl _)) k y hy
        have i1 : (0 : Int) ≤ (k : Int) := by omega
        have i2 : (k : Int) < (n : Int) := by omega
        have HX := Lib.hid hx
        have HY := Lib.hid hy
        clear hx hy
        obtain ⟨c0, c1, c2, c3, c4, c5, c6, c7, c8, c9⟩ := wr_cells hc
        obtain ⟨d0, d1, d2, d3, d4, d5, d6, d7, d8, d9⟩ := wr_cells hc2
        clear hc hc2
        by_cases hxy : x = y
        · subst hxy
          have he := fun W => wr_eq x W
          have HA2 : Hid (l.take (k + 1) = l2.take (k + 1)) := by
            show _ = _
            rw [List.take_add_one, List.take_add_one, HX.out, HY.out, hA.out]
          clear hA
          go_wp2_with fail
          go_quiet (fail)
          go_wp2_with fail
          go_roundw
          case rel => exact ⟨k + 1, by omega, by go_num, HA2, hD.draws _⟩
          case measure => simp [intOf]; omega
        · have he := fun W => wr_neq hxy W
          have R := Lib.hid (sameW_no (l := l) (l2 := l2) fun e => by
            have h1 := HX.out
            rw [e, HY.out] at h1
            injection h1 with h1
            exact hxy h1.symm)
          clear hA hxy
          go_wp2_with fail
          go_quiet (fail)
          go_wp2_with fail
          go_ret
          exact ⟨ret_bool R.out.symm, hD.draws _⟩
      · have hq : ¬ (k : Int) < (n : Int) := by omega
        have R : Hid (sameW l l2 = true) := sameW_yes (by
          have h := hA.out
          rw [List.take_of_length_le (by have := HN.out; omega), List.take_of_length_le (by have := HN2.out; omega)] at h
          exact h)
        clear hA
        go_wp2_with fail
        go_ret
        exact ⟨ret_bool R.out.symm, hD⟩
  · have e0 : ((n : Int) != (m : Int)) = true := by rw [bne_iff_ne]; omega
    have R := Lib.hid (sameW_no (l := l) (l2 := l2) (fun e => hnm (by rw [← HN.out, ← HN2.out, e])))
    clear hnm hn hn2
    go_enter Try.func22, Try.ntmps22
    go_wp2_with fail
    go_ret
    exact ⟨ret_bool R.out.symm, Drn.refl _⟩
end Go.Proofs.Ytkfhkfddhijkcaa

namespace Go.Proofs.Ytkfhkfddhijkcaa
open Go.RowKit

theorem en_spinney_spinneyref03_GoodId : ∀ args w, (callFunc 69 args).run Try.prog w = .ok (.enter 69 args) w := enters_of Try.func69 (by kernel_rfl) rfl
theorem en_spinney_spinneyref03_Same : ∀ args w, (callFunc 22 args).run Try.prog w = .ok (.enter 22 args) w := enters_of Try.func22 (by kernel_rfl) rfl

theorem good_nums {x : Wr} (h : x.good = true) : nodeB x.dev = true ∧ -1000 ≤ x.seq ∧ x.seq ≤ 1000 := by
  unfold Wr.good wrGoodB at h
  rw [Bool.and_eq_true] at h
  have h1 := of_decide_eq_true (show decide _ = true from h.1)
  refine ⟨?_, by omega, by omega⟩
  unfold nodeB
  rw [decide_eq_true (by omega), decide_eq_true (by omega)]
  rfl
theorem good_len {x : Wr} (h : x.good = true) : x.ky.size ≤ 1000000 ∧ x.sa.size ≤ 1000000 ∧ x.sb.size ≤ 1000000 := by
  unfold Wr.good wrGoodB opB at h
  rw [Bool.and_eq_true, Bool.and_eq_true, Bool.and_eq_true, Bool.and_eq_true] at h
  obtain ⟨_, ⟨⟨h1, h2⟩, h3⟩, _⟩ := h
  unfold keyB at h1
  rw [Bool.and_eq_true] at h1
  have k1 := of_decide_eq_true h1.2
  have k0 : x.ky.data.toList.length = x.ky.size := Array.length_toList
  unfold goodB at h2 h3
  have k2 := of_decide_eq_true h2
  have k3 := of_decide_eq_true h3
  omega
theorem id_nat {d q : Int} (h : idB d q = true) : ∃ k : Nat, k < 12 ∧ d = (k : Int) ∧ -1000 ≤ q ∧ q ≤ 1000 := by
  have h1 := of_decide_eq_true (show decide _ = true from h)
  exact ⟨d.toNat, by omega, by omega, by omega, by omega⟩
theorem in_eq (i j : Nat) (m : Int) (W : World) : ((do eqGuard .eql 3 (.tmp i) (.tmp j) (.int .i64 m) (.int .i64 m); binOp .eql 3 (.int .i64 m) (.int .i64 m)) : Sem Value).run Try.prog W = .ok (.bool true) W := by go_simp
end Go.Proofs.Ytkfhkfddhijkcaa

namespace Go.Proofs.Ytkfhkfddhijkcaa
open Go.RowKit Go.MapKept

/-- Block b is a map from numbers that has v at n, just if f tells so. -/
def MpI (W : World) (b : Nat) (f : Int → Option Value) : Prop :=
  ∃ es clock, W.heap[b]? = some (.map es clock) ∧ Stamped es clock ∧ (∀ e, e ∈ es.toList → ∃ n, e.key = .int .i64 n ∧ f n = some e.val) ∧ ∀ n v, f n = some v → ∃ e, e ∈ es.toList ∧ e.key = .int .i64 n ∧ e.val = v
/-- The same, but at n. -/
def upd (f : Int → Option Value) (n : Int) (v : Option Value) : Int → Option Value := fun m => if m = n then v else f m
theorem upd_at (f : Int → Option Value) (n : Int) (v : Option Value) : upd f n v n = v := if_pos rfl
theorem upd_ne {f : Int → Option Value} {n m : Int} {v : Option Value} (h : m ≠ n) : upd f n v m = f m := if_neg h
theorem MpI.lt {W : World} {b : Nat} {f : Int → Option Value} (h : MpI W b f) : b < W.heap.size := by
  obtain ⟨es, clock, hb, -⟩ := h
  exact (Array.getElem?_eq_some_iff.1 hb).1
theorem MpI.same {W W' : World} {b : Nat} {f : Int → Option Value} (h : MpI W b f) (hk : W'.heap[b]? = W.heap[b]?) : MpI W' b f := by
  obtain ⟨es, clock, hb, h2⟩ := h
  exact ⟨es, clock, hk.trans hb, h2⟩
theorem MpI.keep {W W' : World} {b B : Nat} {f : Int → Option Value} (h : MpI W b f) (hb : Below B W W') (hB : b < B) : MpI W' b f := h.same (hb.block b hB)
theorem MpI.other {W W' : World} {b c : Nat} {f : Int → Option Value} (h : MpI W b f) (ho : Only1 c W W') (hne : b ≠ c) : MpI W' b f := h.same (ho.block b hne)
theorem key_int {n m : Int} (h : Value.int .i64 n = .int .i64 m) : n = m := by injection h
theorem keys_of {es : Array MapEntry} {f : Int → Option Value} (h : ∀ e, e ∈ es.toList → ∃ n, e.key = .int .i64 n ∧ f n = some e.val) : ∀ x ∈ es.toList, IsKey (.int .i64) x.key := fun x hx => by
  obtain ⟨n, hn, -⟩ := h x hx
  rw [hn]
  rfl
theorem mpi_new (W : World) : MpI (W.alloc (.map #[] 0)) W.heap.size (fun _ => none) :=
  ⟨#[], 0, by show (W.heap.push _)[W.heap.size]? = _; simp, stamped_empty 0, fun e he => by simp at he, fun n v h => by cases h⟩
section
variable {P : Program} {t k e : TypeId} {W : World} {b : Nat} {f : Int → Option Value}
theorem run_lookI (hm : P.underlying t = some (.map k e)) (hd : P.underlying k = some (.int .i64)) {z : Value} (hz : (zeroValue e).run P W = .ok z W) (h : MpI W b f) (n : Int) :
    (Instr.lookup t (.map (some b)) (.int .i64 n) false).run P W = .ok ((f n).getD z) W := by
  obtain ⟨es, clock, hb, hs, h1, h2⟩ := h
  have hk : IsKey (.int .i64) (.int .i64 n) := rfl
  rcases findNow_spec hk es.toList 0 (keys_of h1) with ⟨g1, g2⟩ | ⟨j, x, g1, g2, g3⟩
  · have hf : f n = none := by
      cases hf : f n with
      | none => rfl
      | some v =>
        obtain ⟨y, hy, ky, -⟩ := h2 n v hf
        exact absurd ky (g2 y hy)
    simp [Instr.lookup, run_underlying hm, MapKept.run_getObj_map hb, run_checkKey hd hk, run_findKey hd g1, Result.andThen, hz, hf]
  · obtain ⟨m, hm', hf⟩ := h1 x (List.mem_of_getElem? g2)
    have : m = n := key_int (hm'.symm.trans g3)
    subst this
    simp [Instr.lookup, run_underlying hm, MapKept.run_getObj_map hb, run_checkKey hd hk, run_findKey hd g1, Result.andThen, hf]
theorem run_lookNil (hm : P.underlying t = some (.map k e)) (hd : P.underlying k = some (.int .i64)) {z : Value} (hz : (zeroValue e).run P W = .ok z W) (n : Int) :
    (Instr.lookup t (.map none) (.int .i64 n) false).run P W = .ok z W := by
  have hk : IsKey (.int .i64) (.int .i64 n) := rfl
  have g1 : Instr.findNow (.int .i64) (.int .i64 n) [] 0 = some none := rfl
  simp [Instr.lookup, run_underlying hm, run_checkKey hd hk, run_findKey hd g1, Result.andThen, hz]
theorem run_putI (hm : P.underlying t = some (.map k e)) (hd : P.underlying k = some (.int .i64)) (h : MpI W b f) (n : Int) (v : Value) :
    ∃ W', (Instr.mapUpdate t (.map (some b)) (.int .i64 n) v).run P W = .ok () W' ∧ Only1 b W W' ∧ MpI W' b (upd f n (some v)) := by
  obtain ⟨es, clock, hb, hs, h1, h2⟩ := h
  have hk : IsKey (.int .i64) (.int .i64 n) := rfl
  rcases findNow_spec hk es.toList 0 (keys_of h1) with ⟨g1, g2⟩ | ⟨j, x, g1, g2, g3⟩
  · refine ⟨{ W with heap := W.heap.setIfInBounds b (.map (es.push { key := .int .i64 n, val := v, born := clock }) (clock + 1)) }, by simp [Instr.mapUpdate, run_underlying hm, MapKept.run_getObj_map hb, run_checkKey hd hk, run_findKey hd g1, run_setObj_map _ hb, Result.andThen], only_set _ _ _, _, _, (heap_set hb).1, stamped_push hs g2, ?_, ?_⟩
    · intro y hy
      simp only [Array.toList_push, List.mem_append, List.mem_singleton] at hy
      rcases hy with hy | rfl
      · obtain ⟨m, hm', hf⟩ := h1 y hy
        have hne : m ≠ n := fun q => g2 y hy (by rw [hm', q])
        exact ⟨m, hm', by rw [upd_ne hne]; exact hf⟩
      · exact ⟨n, rfl, upd_at ..⟩
    · intro m u hu
      by_cases q : m = n
      · subst q
        rw [upd_at] at hu
        cases hu
        exact ⟨{ key := .int .i64 m, val := v, born := clock }, by simp, rfl, rfl⟩
      · rw [upd_ne q] at hu
        obtain ⟨y, hy, ky, vy⟩ := h2 m u hu
        exact ⟨y, by simp [hy], ky, vy⟩
  · have hj : es[j]? = some x := by simpa using g2
    have hkey : ∀ e', es[j]? = some e' → ({ e' with key := .int .i64 n, val := v } : MapEntry).key = e'.key := fun e' he' => by rw [hj] at he'; cases he'; exact g3.symm
    have hlt : j < es.size := (Array.getElem?_eq_some_iff.1 hj).1
    refine ⟨{ W with heap := W.heap.setIfInBounds b (.map (es.modify j fun e => { e with key := .int .i64 n, val := v }) clock) }, by simp [Instr.mapUpdate, run_underlying hm, MapKept.run_getObj_map hb, run_checkKey hd hk, run_findKey hd g1, hj, g3, run_keyThatStays hk, run_setObj_map _ hb, Result.andThen], only_set _ _ _, _, _, (heap_set hb).1, stamped_modify hs j (fun e => { e with key := .int .i64 n, val := v }) (fun _ _ => rfl) (fun e' _ he' => hkey e' he'), ?_, ?_⟩
    · intro y hy
      obtain ⟨i, hi⟩ := List.getElem?_of_mem hy
      rw [Array.getElem?_toList, Array.getElem?_modify] at hi
      by_cases q : j = i
      · subst q
        rw [if_pos rfl, hj] at hi
        cases hi
        exact ⟨n, rfl, upd_at ..⟩
      · rw [if_neg q] at hi
        obtain ⟨m, hm', hf⟩ := h1 y (List.mem_of_getElem? ((Array.getElem?_toList ..).trans hi))
        refine ⟨m, hm', ?_⟩
        rw [upd_ne ?_]
        · exact hf
        · rintro rfl
          have hn := hs.2.2
          have e1 : (es.toList.map (·.key))[j]? = some (Value.int .i64 m) := by rw [List.getElem?_map, g2]; exact congrArg some g3
          have e2 : (es.toList.map (·.key))[i]? = some (Value.int .i64 m) := by rw [List.getElem?_map, Array.getElem?_toList, hi]; exact congrArg some hm'
          exact q ((List.getElem?_inj (by simpa using hlt) hn).1 (e1.trans e2.symm))
    · intro m u hu
      by_cases q : m = n
      · subst q
        rw [upd_at] at hu
        cases hu
        refine ⟨{ x with key := .int .i64 m, val := v }, List.mem_of_getElem? (i := j) ?_, rfl, rfl⟩
        rw [Array.getElem?_toList, Array.getElem?_modify, if_pos rfl, hj]
        rfl
      · rw [upd_ne q] at hu
        obtain ⟨y, hy, ky, vy⟩ := h2 m u hu
        obtain ⟨i, hi⟩ := List.getElem?_of_mem hy
        refine ⟨y, List.mem_of_getElem? (i := i) ?_, ky, vy⟩
        rw [Array.getElem?_toList, Array.getElem?_modify, if_neg, ← Array.getElem?_toList]
        · exact hi
        · rintro rfl
          rw [g2] at hi
          cases hi
          exact q (key_int (ky.symm.trans g3))
theorem run_delI {ty : TypeId} {ts : Array TypeId} (ht : ts[0]? = some t) (hm : P.underlying t = some (.map k e)) (hd : P.underlying k = some (.int .i64)) (h : MpI W b f) (n : Int) :
    ∃ W', (Builtin.delete_ ts ty #[.map (some b), .int .i64 n]).run P W = .ok (.tuple #[]) W' ∧ Only1 b W W' ∧ MpI W' b (upd f n none) := by
  obtain ⟨es, clock, hb, hs, h1, h2⟩ := h
  have hk : IsKey (.int .i64) (.int .i64 n) := rfl
  rcases findNow_spec hk es.toList 0 (keys_of h1) with ⟨g1, g2⟩ | ⟨j, x, g1, g2, g3⟩
  · refine ⟨{ W with heap := W.heap.setIfInBounds b (.map es clock) }, by simp [Builtin.delete_, ht, run_underlying hm, MapKept.run_getObj_map hb, run_checkKey hd hk, run_findKey hd g1, run_setObj_map _ hb, Result.andThen], only_set _ _ _, es, clock, (heap_set hb).1, hs, ?_, ?_⟩
    · intro y hy
      obtain ⟨m, hm', hf⟩ := h1 y hy
      have hne : m ≠ n := fun q => g2 y hy (by rw [hm', q])
      exact ⟨m, hm', by rw [upd_ne hne]; exact hf⟩
    · intro m u hu
      by_cases q : m = n
      · rw [q, upd_at] at hu; cases hu
      · rw [upd_ne q] at hu
        exact h2 m u hu
  · have hlt : j < es.size := by have := (List.getElem?_eq_some_iff.1 g2).1; simpa using this
    have hj : es[j]? = some x := by simpa using g2
    have hn := hs.2.2
    have eE : (es.eraseIdxIfInBounds j).toList = es.toList.eraseIdx j := by
      unfold Array.eraseIdxIfInBounds
      rw [dif_pos hlt]
      simp
    refine ⟨{ W with heap := W.heap.setIfInBounds b (.map (es.eraseIdxIfInBounds j) clock) }, by simp [Builtin.delete_, ht, run_underlying hm, MapKept.run_getObj_map hb, run_checkKey hd hk, run_findKey hd g1, run_setObj_map _ hb, Result.andThen], only_set _ _ _, _, clock, (heap_set hb).1, stamped_erase hs j, ?_, ?_⟩
    · intro y hy
      rw [eE, List.mem_eraseIdx_iff_getElem?] at hy
      obtain ⟨i, hne, hi⟩ := hy
      obtain ⟨m, hm', hf⟩ := h1 y (List.mem_of_getElem? hi)
      refine ⟨m, hm', ?_⟩
      rw [upd_ne ?_]
      · exact hf
      · rintro rfl
        have e1 : (es.toList.map (·.key))[j]? = some (Value.int .i64 m) := by rw [List.getElem?_map, g2]; exact congrArg some g3
        have e2 : (es.toList.map (·.key))[i]? = some (Value.int .i64 m) := by rw [List.getElem?_map, hi]; exact congrArg some hm'
        exact hne ((List.getElem?_inj (by simpa using hlt) hn).1 (e1.trans e2.symm)).symm
    · intro m u hu
      by_cases q : m = n
      · rw [q, upd_at] at hu; cases hu
      · rw [upd_ne q] at hu
        obtain ⟨y, hy, ky, vy⟩ := h2 m u hu
        obtain ⟨i, hi⟩ := List.getElem?_of_mem hy
        refine ⟨y, ?_, ky, vy⟩
        rw [eE, List.mem_eraseIdx_iff_getElem?]
        refine ⟨i, ?_, hi⟩
        rintro rfl
        rw [g2] at hi
        cases hi
        exact q (key_int (ky.symm.trans g3))
end
end Go.Proofs.Ytkfhkfddhijkcaa

namespace Go.Proofs.Ytkfhkfddhijkcaa
open Go.RowKit Go.MapKept

theorem callv1_is {w : World} {f : FuncId} (he : ∀ args w, (callFunc f args).run Try.prog w = .ok (.enter f args) w) (d : Option Tmp) (x y : Operand) (ts : Array TypeId) (ty : TypeId) (p : String) (af : Array Edge) (gd : Option (Nat × Bool)) (ρ : Operand → Value) (v : Value) (lb : Array Value) (h0 : ρ x = .func (.func f) #[] lb) (h1 : ρ y = v) : (execOp ρ ⟨d, .call { callee := .value x, args := #[y], argTypes := ts }, ty, p, af, gd⟩).run Try.prog w = .ok (.enter f (#[v] ++ lb)) w := by
  unfold execOp
  dsimp only
  go_simp
theorem callv2_is {w : World} {f : FuncId} (he : ∀ args w, (callFunc f args).run Try.prog w = .ok (.enter f args) w) (d : Option Tmp) (x y z : Operand) (ts : Array TypeId) (ty : TypeId) (p : String) (af : Array Edge) (gd : Option (Nat × Bool)) (ρ : Operand → Value) (u v : Value) (lb : Array Value) (h0 : ρ x = .func (.func f) #[] lb) (h1 : ρ y = u) (h2 : ρ z = v) : (execOp ρ ⟨d, .call { callee := .value x, args := #[y, z], argTypes := ts }, ty, p, af, gd⟩).run Try.prog w = .ok (.enter f (#[u, v] ++ lb)) w := by
  unfold execOp
  dsimp only
  go_simp
section
variable {l : List Oper} {Q : Exit → Act → World → Prop} {S : World → Prop} {rest : List Oper} {a0 : Act} {L : List (Nat × Bool × Value)}
theorem s_cv1 {f : FuncId} {i j d n : Nat} {g gi gj : Bool} {u v : Value} {lb : Array Value} {ts : Array TypeId} {ty : TypeId} {p : String} {af : Array Edge} {gd : Option (Nat × Bool)} (hn : a0.tmps.size = n) (he : ∀ args w, (callFunc f args).run Try.prog w = .ok (.enter f args) w) (hc : g = true → ∀ W, S W → Calls Try.prog f (#[u] ++ lb) W fun e w' => e = .returned v ∧ S w') (h : FS Try.prog l Q S rest a0 ((d, g, v) :: L)) (hd : Nat.blt d n = true := by rfl) (hw : wtG l L gd = some g := by rfl) (hl : lk L i = some (gi, .func (.func f) #[] lb) := by rfl) (hs : g = true → gi = true := by first | exact fun _ => rfl | exact id) (hl2 : lk L j = some (gj, u) := by rfl) (hs2 : g = true → gj = true := by first | exact fun _ => rfl | exact id) : FS Try.prog l Q S (⟨some d, .call { callee := .value (.tmp i), args := #[.tmp j], argTypes := ts }, ty, p, af, gd⟩ :: rest) a0 L :=
  fs_op hn rfl hd hw (fun hk hg => yv_call (fun w => callv1_is he _ _ _ _ _ _ _ _ _ u lb (lk_at hk hl hs hg) (lk_at hk hl2 hs2 hg)) (hc hg)) h
theorem s_cv2 {f : FuncId} {i j k d n : Nat} {g gi gj gk : Bool} {u u2 v : Value} {lb : Array Value} {ts : Array TypeId} {ty : TypeId} {p : String} {af : Array Edge} {gd : Option (Nat × Bool)} (hn : a0.tmps.size = n) (he : ∀ args w, (callFunc f args).run Try.prog w = .ok (.enter f args) w) (hc : g = true → ∀ W, S W → Calls Try.prog f (#[u, u2] ++ lb) W fun e w' => e = .returned v ∧ S w') (h : FS Try.prog l Q S rest a0 ((d, g, v) :: L)) (hd : Nat.blt d n = true := by rfl) (hw : wtG l L gd = some g := by rfl) (hl : lk L i = some (gi, .func (.func f) #[] lb) := by rfl) (hs : g = true → gi = true := by first | exact fun _ => rfl | exact id) (hl2 : lk L j = some (gj, u) := by rfl) (hs2 : g = true → gj = true := by first | exact fun _ => rfl | exact id) (hl3 : lk L k = some (gk, u2) := by rfl) (hs3 : g = true → gk = true := by first | exact fun _ => rfl | exact id) : FS Try.prog l Q S (⟨some d, .call { callee := .value (.tmp i), args := #[.tmp j, .tmp k], argTypes := ts }, ty, p, af, gd⟩ :: rest) a0 L :=
  fs_op hn rfl hd hw (fun hk hg => yv_call (fun w => callv2_is he _ _ _ _ _ _ _ _ _ _ u u2 lb (lk_at hk hl hs hg) (lk_at hk hl2 hs2 hg) (lk_at hk hl3 hs3 hg)) (hc hg)) h
end
section
variable {P : Program} {t k e : TypeId} {W : World} {b : Nat} {f : Int → Option Value}
theorem run_lookO (hm : P.underlying t = some (.map k e)) (hd : P.underlying k = some (.int .i64)) {z : Value} (hz : (zeroValue e).run P W = .ok z W) (h : MpI W b f) (n : Int) :
    (Instr.lookup t (.map (some b)) (.int .i64 n) true).run P W = .ok (.tuple #[(f n).getD z, .bool (f n).isSome]) W := by
  obtain ⟨es, clock, hb, hs, h1, h2⟩ := h
  have hk : IsKey (.int .i64) (.int .i64 n) := rfl
  rcases findNow_spec hk es.toList 0 (keys_of h1) with ⟨g1, g2⟩ | ⟨j, x, g1, g2, g3⟩
  · have hf : f n = none := by
      cases hf : f n with
      | none => rfl
      | some v =>
        obtain ⟨y, hy, ky, -⟩ := h2 n v hf
        exact absurd ky (g2 y hy)
    simp [Instr.lookup, run_underlying hm, MapKept.run_getObj_map hb, run_checkKey hd hk, run_findKey hd g1, Result.andThen, hz, hf]
  · obtain ⟨m, hm', hf⟩ := h1 x (List.mem_of_getElem? g2)
    have : m = n := key_int (hm'.symm.trans g3)
    subst this
    simp [Instr.lookup, run_underlying hm, MapKept.run_getObj_map hb, run_checkKey hd hk, run_findKey hd g1, Result.andThen, hf]
end
section
variable {P : Program} {w : World} {ρ : Operand → Value} {d : Option Tmp} {ty : TypeId} {p : String} {af : Array Edge} {gd : Option (Nat × Bool)}
theorem x_lko {i k : Nat} {t : TypeId} {vi vk v : Value} (h : ρ (.tmp i) = vi) (h2 : ρ (.tmp k) = vk) (hr : (Instr.lookup t vi vk true).run P w = .ok v w) : (execOp ρ ⟨d, .lookup t (.tmp i) (.tmp k) true, ty, p, af, gd⟩).run P w = .ok (.value v) w := by
  unfold execOp
  dsimp only
  rw [h, h2, Sem.run_bind, hr]; rfl
theorem x_mpu {i j k : Nat} {t : TypeId} {vi vj vk : Value} {w2 : World} (h : ρ (.tmp i) = vi) (h2 : ρ (.tmp j) = vj) (h3 : ρ (.tmp k) = vk) (hr : (Instr.mapUpdate t vi vj vk).run P w = .ok () w2) : (execOp ρ ⟨d, .mapUpdate t (.tmp i) (.tmp j) (.tmp k), ty, p, af, gd⟩).run P w = .ok .skip w2 := by
  unfold execOp
  dsimp only
  rw [h, h2, h3, Sem.run_bind, hr]; rfl
end
section
variable {P : Program} {l : List Oper} {Q : Exit → Act → World → Prop} {rest : List Oper} {a0 : Act} {L : List (Nat × Bool × Value)} {w : World}
theorem g_mpu {i j k : Nat} {t ty : TypeId} {p : String} {af : Array Edge} {gd : Option (Nat × Bool)} {vi vj vk : Value} {w2 : World} (hr : (Instr.mapUpdate t vi vj vk).run P w = .ok () w2) (h : FL P l Q rest a0 L w2) (hw : wtG l L gd = some true := by rfl) (hi : lk L i = some (true, vi) := by rfl) (hj : lk L j = some (true, vj) := by rfl) (hk : lk L k = some (true, vk) := by rfl) : FL P l Q (⟨none, .mapUpdate t (.tmp i) (.tmp j) (.tmp k), ty, p, af, gd⟩ :: rest) a0 L w :=
  fl_skip rfl hw (fun hh => x_mpu (lk_at hh hi (fun _ => rfl) rfl) (lk_at hh hj (fun _ => rfl) rfl) (lk_at hh hk (fun _ => rfl) rfl) hr) h
end
/-- A map of whole numbers. -/
def mf (f : Int → Option Int) : Int → Option Value := fun n => (f n).map (Value.int .i64)
theorem mf_getD (f : Int → Option Int) (n : Int) : (mf f n).getD (.int .i64 0) = .int .i64 ((f n).getD 0) := by unfold mf; cases f n <;> rfl
theorem mf_some (f : Int → Option Int) (n : Int) : (mf f n).isSome = (f n).isSome := by unfold mf; cases f n <;> rfl
theorem mf_upd (f : Int → Option Int) (n v : Int) : upd (mf f) n (some (.int .i64 v)) = mf (fun m => if m = n then some v else f m) := by
  funext m
  unfold upd mf
  by_cases h : m = n
  · simp [h]
  · simp [h]
end Go.Proofs.Ytkfhkfddhijkcaa

namespace Go.Proofs.Ytkfhkfddhijkcaa
open Go.RowKit

theorem en_spinney_stamp_Tight_1 : ∀ args w, (callFunc 76 args).run Try.prog w = .ok (.enter 76 args) w := enters_of Try.func76 (by kernel_rfl) rfl
theorem en_spinney_stamp_pairs : ∀ args w, (callFunc 75 args).run Try.prog w = .ok (.enter 75 args) w := enters_of Try.func75 (by kernel_rfl) rfl
theorem en_spinney_stamp_Tight : ∀ args w, (callFunc 21 args).run Try.prog w = .ok (.enter 21 args) w := enters_of Try.func21 (by kernel_rfl) rfl

/-- Has it this id? -/
def isId (d q : Int) (x : Wr) : Bool := x.dev == d && x.seq == q
def findGo (p : Wr → Bool) (i : Int) : List Wr → Int
  | [] => -1
  | x :: r => bif p x then i else findGo p (i + 1) r
theorem findGo_no (p : Wr → Bool) : ∀ (ws : List Wr) (i : Int), (∀ x, x ∈ ws → p x = false) → findGo p i ws = -1
  | [], _, _ => rfl
  | x :: r, i, h => by
    unfold findGo
    rw [h x (List.mem_cons_self ..)]
    exact findGo_no p r (i + 1) fun y hy => h y (List.mem_cons_of_mem _ hy)
theorem findGo_at (p : Wr → Bool) : ∀ (ws : List Wr) (i : Int) (k : Nat) (x : Wr), ws[k]? = some x → p x = true → (∀ y, y ∈ ws.take k → p y = false) → findGo p i ws = i + k
  | [], _, k, _, h, _, _ => by simp at h
  | a :: r, i, 0, x, h, hp, _ => by
    have e : a = x := by simpa using h
    unfold findGo
    rw [e, hp]
    show i = i + 0
    omega
  | a :: r, i, k + 1, x, h, hp, hn => by
    unfold findGo
    rw [hn a (by simp)]
    show findGo p (i + 1) r = _
    rw [findGo_at p r (i + 1) k x (by simpa using h) hp (fun y hy => hn y (by simp [hy]))]
    omega
def findZ (d q : Int) (ws : List Wr) : Int := findGo (isId d q) 0 ws
theorem eq_id (i j : Nat) (a c d q : Int) (W : World) : ((do eqGuard .eql 32 (.tmp i) (.tmp j) (.agg #[.int .i64 a, .int .i64 c]) (.agg #[.int .i64 d, .int .i64 q]); binOp .eql 32 (.agg #[.int .i64 a, .int .i64 c]) (.agg #[.int .i64 d, .int .i64 q])) : Sem Value).run Try.prog W = .ok (.bool (a == d && c == q)) W := by
  go_simp
  by_cases h1 : a = d <;> by_cases h2 : c = q <;> simp [h1, h2]
end Go.Proofs.Ytkfhkfddhijkcaa

namespace Go.Proofs.Ytkfhkfddhijkcaa
open Go.RowKit

/-- May q come behind a? -/
def okT (a : Option Int) (q : Int) : Bool := match a with
  | none => true
  | some a => decide (a < q) && (IntKind.i64.wrap (a + 1) == q)
def tstep (s : Bool × (Int → Option Int)) (x : Wr) : Bool × (Int → Option Int) := (s.1 && okT (s.2 x.dev) x.seq, fun m => if m = x.dev then some x.seq else s.2 m)
def tst (ws : List Wr) : Bool × (Int → Option Int) := ws.foldl tstep (true, fun _ => none)
theorem tst_next {ws : List Wr} {k : Nat} {x : Wr} (hx : ws[k]? = some x) : tst (ws.take (k + 1)) = tstep (tst (ws.take k)) x := by
  unfold tst
  rw [List.take_add_one, hx, List.foldl_append]
  rfl
theorem tfold_false (ws : List Wr) : ∀ s : Bool × (Int → Option Int), s.1 = false → (ws.foldl tstep s).1 = false := by
  induction ws with
  | nil => intro s h; exact h
  | cons x r ih =>
    intro s h
    refine ih _ ?_
    unfold tstep
    rw [h]
    rfl
theorem tst_false {ws : List Wr} {k : Nat} (h : (tst (ws.take k)).1 = false) : (tst ws).1 = false := by
  have e : tst ws = (ws.drop k).foldl tstep (tst (ws.take k)) := by
    unfold tst
    rw [← List.foldl_append, List.take_append_drop]
  rw [e]
  exact tfold_false _ _ h
set_option maxRecDepth 100000 in
set_option maxHeartbeats 4000000 in
theorem tight1_any (a q : Int) (w : World) : Calls Try.prog 76 #[.int .i64 a, .int .i64 q] w fun e w' => e = .returned (.bool (decide (a < q) && (IntKind.i64.wrap (a + 1) == q))) ∧ w' = w := by
  have a1 : ∀ W, W = w → ((do eqGuard .add 3 (.tmp 9) (.const (.int .i64 1)) (.int .i64 a) (.int .i64 1); binOp .add 3 (.int .i64 a) (.int .i64 1)) : Sem Value).run Try.prog W = .ok (.int .i64 (IntKind.i64.wrap (a + 1))) W := fun W _ => by go_simp
  go_enter Try.func76, Try.ntmps76
  go_upto_region 1 with fail
  refine wp_region_lit ?_
  refine fs_start (fun W => W = w) (rfl) ?_
  generalize ha : Act.mk _ _ = a0
  have hn : a0.tmps.size = 14 := by rw [← ha]; kernel_rfl
  have h0 : (fr a0 []).eval (.tmp 0) = .int .i64 a := by rw [← ha]; kernel_rfl
  refine fs_know hn rfl h0 ?_
  clear h0
  have h1 : (fr a0 [(0, true, .int .i64 a)]).eval (.tmp 1) = .int .i64 q := by rw [← ha]; kernel_rfl
  refine fs_know hn rfl h1 ?_
  clear h1
  refine s_mv hn ?_
  refine s_mv hn ?_
  refine s_lss2 hn ?_
  refine s_mv hn ?_
  refine s_mv hn ?_
  refine s_bc hn ?_
  refine s_mv hn ?_
  refine s_eql2 hn ?_
  refine s_an hn ?_
  refine s_as hn ?_
  refine fs_end (fun w2 hS => ?_)
  clear hn
  subst ha
  dsimp only [fr, cnd, Act.put, cond_true]
  simp only [List.setIfInBounds_toArray, List.set_cons_zero, List.set_cons_succ]
  subst hS
  clear a1
  go_wp2_with fail
  go_ret
  exact ⟨rfl, rfl⟩
theorem mUndT : Try.prog.underlying 177 = some (.map 3 3) := Try.underlying177
theorem iUndT : Try.prog.underlying 3 = some (.int .i64) := Try.underlying3
theorem zTi (W : World) : (zeroValue 3).run Try.prog W = .ok (.int .i64 0) W := by kernel_rfl
theorem run_mkT (W : World) : (Instr.makeMap 177 none).run Try.prog W = .ok (.map (some W.heap.size)) (W.alloc (.map #[] 0)) := rfl
set_option maxRecDepth 100000 in
set_option maxHeartbeats 4000000 in
theorem pairs_any {C : Nat} (A : Option Addr) (n c : Nat) (ws : List Wr) (w : World) (hn0 : ws.length = n) (hr : RdW C w A ws) (hC : C ≤ w.heap.size) (hm : n ≤ 1000000) : Calls Try.prog 75 #[.slice A n c, .func (.func 76) #[] #[]] w fun e w' => e = .returned (.bool (tst ws).1) ∧ Below w.heap.size w w' := by
  have HN := Lib.hid hn0
  have HR := Lib.hid (fun W hb => hr.keep (W' := W) hb hC)
  clear hn0 hr
  have hM := mpi_new w
  have hB := b0 w (.map #[] 0)
  have mk := run_mkT w
  go_enter Try.func75, Try.ntmps75
  go_upto_region 2 with fail
  generalize w.alloc (.map #[] 0) = W0 at hM hB mk ⊢
  generalize hb : w.heap.size = m at hM hB mk ⊢
  clear mk
  go_wp2_with fail
  go_loopw [7, 8, 9, 13] (fun _ _ _ i wr => ∃ k : Nat, k ≤ n ∧ i = .int .i64 k ∧ MpI wr m (mf (tst (ws.take k)).2) ∧ Below m w wr ∧ Hid ((tst (ws.take k)).1 = true)) (fun _ _ _ i _ => n - (intOf i).toNat)
  case atStart => exact ⟨0, Nat.zero_le _, rfl, hM, hB, rfl⟩
  case round =>
    clear hM hB
    obtain ⟨k, hk, rfl, hM, hB, hA⟩ := hrel
    by_cases hlt : k < n
    · obtain ⟨x, hx⟩ : ∃ x, ws[k]? = some x := ⟨_, List.getElem?_eq_getElem (show k < ws.length by have := HN.out; omega)⟩
      obtain ⟨ad, rfl, hadb, hc⟩ := HR.out wr (by rw [hb]; exact hB) k x hx
      have HX := Lib.hid (tst_next hx)
      clear hx
      have i2 : (k : Int) < (n : Int) := by omega
      have ix := wix wr ad n c k hlt
      have ld := wld hc
      go_upto_region 4 with fail
      refine wp_region_lit ?_
      refine fl_start ?_
      generalize ha : Act.mk _ _ = a0
      have hn : a0.tmps.size = 43 := by rw [← ha]; kernel_rfl
      have h11 : (fr a0 []).eval (.tmp 11) = .slice (some ad) n c := by rw [← ha]; kernel_rfl
      refine fl_know hn rfl h11 ?_
      clear h11
      have h13 : (fr a0 [(11, true, .slice (some ad) n c)]).eval (.tmp 13) = .int .i64 (k : Int) := by rw [← ha]; kernel_rfl
      refine fl_know hn rfl h13 ?_
      clear h13
      refine g_ix hn ?_
      refine g_ld hn ?_
      refine al_row hn (alW wr) ?_
      intro g w2 hg hY hB2
      refine g_str hY ?_ (h1 := wr_oneC x)
      intro w3 ho hY3
      refine fl_end ?_
      clear hn
      subst ha
      dsimp only [fr, cnd, Act.put, cond_true]
      simp only [List.setIfInBounds_toArray, List.set_cons_zero, List.set_cons_succ]
      have hW3 : Below wr.heap.size wr w3 := hB2.trans (ho.below (by omega))
      have hml := hM.lt
      have hM3 := hM.keep hW3 hml
      have hB3 : Below m w w3 := hB.trans (hW3.mono (by omega))
      have hmg : m < g := by omega
      clear ix ld hc hY hM hB hB2 ho hW3 hml
      generalize hT : tst (ws.take k) = T at hM3 HX hA
      have f0 := wfd0 w3 ⟨g, 0, none⟩
      have f1 := ifd0 w3 ⟨g, 0, none⟩
      have l0 := load_int (w := w3) (hY3.cell 0)
      have lk0 := run_lookO mUndT iUndT (zTi w3) hM3 x.dev
      rw [mf_getD, mf_some] at lk0
      go_upto_region 5 with fail
      refine wp_region_lit ?_
      refine fl_start ?_
      generalize ha : Act.mk _ _ = a0
      have hn : a0.tmps.size = 43 := by rw [← ha]; kernel_rfl
      have h5 : (fr a0 []).eval (.tmp 5) = .map (some m) := by rw [← ha]; kernel_rfl
      refine fl_know hn rfl h5 ?_
      clear h5
      have h7 : (fr a0 [(5, true, .map (some m))]).eval (.tmp 7) = .pointer (some ⟨g, 0, none⟩) := by rw [← ha]; kernel_rfl
      refine fl_know hn rfl h7 ?_
      clear h7
      refine g_mv hn ?_
      refine g_fd hn ?_
      refine g_fd hn ?_
      refine g_ld hn ?_
      refine g_o2 (i := 18) (j := 21) hn (fun ρ h1 h2 _ => x_lko h1 h2 lk0) ?_
      refine g_mv hn ?_
      refine g_ex hn ?_
      refine g_ex hn ?_
      refine g_as hn ?_
      refine g_as hn ?_
      refine fl_end ?_
      clear hn
      subst ha
      dsimp only [fr, cnd, Act.put, cond_true]
      simp only [List.setIfInBounds_toArray, List.set_cons_zero, List.set_cons_succ]
      clear f0 f1 l0 lk0
      have f0 : ∀ W, Kp w3 W → _ := fun W _ => wfd0 W ⟨g, 0, none⟩
      have f1 : ∀ W, Kp w3 W → (Instr.fieldAt 32 (.pointer (some ⟨g, 0, none⟩)) 1).run Try.prog W = .ok (.pointer (some ⟨g, 1, none⟩)) W := fun W _ => by have := ifd1 W ⟨g, 0, none⟩; rwa [Nat.zero_add] at this
      have l1 : ∀ W, Kp w3 W → (Instr.loadAt 3 (.pointer (some ⟨g, 1, none⟩))).run Try.prog W = .ok (.int .i64 x.seq) W := fun W h => load_int ((h.blk hY3).cell 1)
      have c1 : ∀ W, Kp w3 W → Calls Try.prog 76 (#[.int .i64 ((T.2 x.dev).getD 0), .int .i64 x.seq] ++ #[]) W fun e w' => e = .returned (.bool (decide ((T.2 x.dev).getD 0 < x.seq) && (IntKind.i64.wrap ((T.2 x.dev).getD 0 + 1) == x.seq))) ∧ Kp w3 w' := kp_c fun W _ => same_c (tight1_any _ _ W)
      go_upto_region 6 with fail
      refine wp_region_lit ?_
      refine fs_start (Kp w3) (Kp.refl _) ?_
      generalize ha : Act.mk _ _ = a0
      have hn : a0.tmps.size = 43 := by rw [← ha]; kernel_rfl
      have h1 : (fr a0 []).eval (.tmp 1) = .func (.func 76) #[] #[] := by rw [← ha]; kernel_rfl
      refine fs_know hn rfl h1 ?_
      clear h1
      have h7 : (fr a0 [(1, true, .func (.func 76) #[] #[])]).eval (.tmp 7) = .pointer (some ⟨g, 0, none⟩) := by rw [← ha]; kernel_rfl
      refine fs_know hn rfl h7 ?_
      clear h7
      have h8 : (fr a0 [(7, true, .pointer (some ⟨g, 0, none⟩)), (1, true, .func (.func 76) #[] #[])]).eval (.tmp 8) = .int .i64 ((T.2 x.dev).getD 0) := by rw [← ha]; kernel_rfl
      refine fs_know hn rfl h8 ?_
      clear h8
      have h9 : (fr a0 [(8, true, .int .i64 ((T.2 x.dev).getD 0)), (7, true, .pointer (some ⟨g, 0, none⟩)), (1, true, .func (.func 76) #[] #[])]).eval (.tmp 9) = .bool (T.2 x.dev).isSome := by rw [← ha]; kernel_rfl
      refine fs_know hn rfl h9 ?_
      clear h9
      refine s_mv hn ?_
      refine s_mv hn ?_
      refine s_mv hn ?_
      refine s_mv hn ?_
      refine s_fd hn ?_
      refine s_fd hn ?_
      refine s_ld hn ?_
      refine s_cv2 hn en_spinney_stamp_Tight_1 (fun _ => c1) ?_
      refine s_nt hn ?_
      refine s_an hn ?_
      refine fs_end (fun w4 hS => ?_)
      clear hn
      subst ha
      dsimp only [fr, cnd, Act.put, cond_true]
      simp only [List.setIfInBounds_toArray, List.set_cons_zero, List.set_cons_succ]
      have hM4 := hM3.keep hS hM3.lt
      have hY4 := hS.blk hY3
      have hB4 : Below m w w4 := hB3.trans (hS.below.mono (by have := hM3.lt; omega))
      have hok : ((T.2 x.dev).isSome && !(decide ((T.2 x.dev).getD 0 < x.seq) && (IntKind.i64.wrap ((T.2 x.dev).getD 0 + 1) == x.seq))) = !okT (T.2 x.dev) x.seq := by
        unfold okT
        cases T.2 x.dev <;> rfl
      have HOK := Lib.hid hok
      clear hok
      clear f0 f1 l1 c1 hM3 hY3 hB3 hS
      cases hd : ((T.2 x.dev).isSome && !(decide ((T.2 x.dev).getD 0 < x.seq) && (IntKind.i64.wrap ((T.2 x.dev).getD 0 + 1) == x.seq))) with
      | true =>
        have R : Hid (false = (tst ws).1) := by
          show false = (tst ws).1
          refine (tst_false (k := k + 1) ?_).symm
          rw [HX.out]
          unfold tstep
          have h := HOK.out
          rw [hd] at h
          have h2 : okT (T.2 x.dev) x.seq = false := by
            cases hk2 : okT (T.2 x.dev) x.seq with
            | false => rfl
            | true => rw [hk2] at h; cases h
          rw [h2, Bool.and_false]
        clear HX hA hd HOK hM4 hY4
        go_wp2_with fail
        go_ret
        exact ⟨ret_bool R.out, by first | exact hB4 | (rw [hb]; exact hB4)⟩
      | false =>
        have HA2 : Hid ((tst (ws.take (k + 1))).1 = true) := by
          show (tst (ws.take (k + 1))).1 = true
          rw [HX.out]
          unfold tstep
          have h := HOK.out
          rw [hd] at h
          have h2 : okT (T.2 x.dev) x.seq = true := by
            cases hk2 : okT (T.2 x.dev) x.seq with
            | true => rfl
            | false => rw [hk2] at h; cases h
          rw [h2, hA.out]
          rfl
        have HX2 : Hid ((tst (ws.take (k + 1))).2 = fun m => if m = x.dev then some x.seq else T.2 m) := by
          show (tst (ws.take (k + 1))).2 = _
          rw [HX.out]
          rfl
        clear HX hA hd HOK
        have g0 := wfd0 w4 ⟨g, 0, none⟩
        have g1 := ifd0 w4 ⟨g, 0, none⟩
        have g2 : (Instr.fieldAt 32 (.pointer (some ⟨g, 0, none⟩)) 1).run Try.prog w4 = .ok (.pointer (some ⟨g, 1, none⟩)) w4 := by have := ifd1 w4 ⟨g, 0, none⟩; rwa [Nat.zero_add] at this
        have m0 := load_int (w := w4) (hY4.cell 0)
        have m1 := load_int (w := w4) (hY4.cell 1)
        obtain ⟨w5, hput, ho5, hM5⟩ := run_putI mUndT iUndT hM4 x.dev (.int .i64 x.seq)
        rw [mf_upd, ← HX2.out] at hM5
        go_upto_region 8 with fail
        refine wp_region_lit ?_
        refine fl_start ?_
        generalize ha : Act.mk _ _ = a0
        have hn : a0.tmps.size = 43 := by rw [← ha]; kernel_rfl
        have h5 : (fr a0 []).eval (.tmp 5) = .map (some m) := by rw [← ha]; kernel_rfl
        refine fl_know hn rfl h5 ?_
        clear h5
        have h7 : (fr a0 [(5, true, .map (some m))]).eval (.tmp 7) = .pointer (some ⟨g, 0, none⟩) := by rw [← ha]; kernel_rfl
        refine fl_know hn rfl h7 ?_
        clear h7
        refine g_mv hn ?_
        refine g_fd hn ?_
        refine g_fd hn ?_
        refine g_ld hn ?_
        refine g_fd hn ?_
        refine g_fd hn ?_
        refine g_ld hn ?_
        refine g_mpu hput ?_
        refine fl_end ?_
        clear hn
        subst ha
        dsimp only [fr, cnd, Act.put, cond_true]
        simp only [List.setIfInBounds_toArray, List.set_cons_zero, List.set_cons_succ]
        have hB5 := hB4.trans (ho5.below (B := m) (Nat.le_refl _))
        clear g0 g1 g2 m0 m1 hput ho5 hM4 hY4 hB4
        go_wp2_with fail
        go_roundw
        case rel => exact ⟨k + 1, by omega, by go_num, hM5, hB5, HA2⟩
        case measure => simp [intOf]; omega
    · have e : k = n := by omega
      subst e
      have R : Hid (true = (tst ws).1) := by
        show true = (tst ws).1
        have h := hA.out
        rw [List.take_of_length_le (by have := HN.out; omega)] at h
        exact h.symm
      clear hA hM
      go_wp2_with fail
      go_ret
      exact ⟨ret_bool R.out, by first | exact hB | (rw [hb]; exact hB)⟩
set_option maxRecDepth 100000 in
set_option maxHeartbeats 4000000 in
theorem tight_any {C : Nat} (A : Option Addr) (n c : Nat) (ws : List Wr) (w : World) (hn0 : ws.length = n) (hr : RdW C w A ws) (hC : C ≤ w.heap.size) (hm : n ≤ 1000000) : Calls Try.prog 21 #[.slice A n c] w fun e w' => e = .returned (.bool (tst ws).1) ∧ Below w.heap.size w w' := by
  have c1 := pairs_any A n c ws w hn0 hr hC hm
  clear hr
  go_enter Try.func21, Try.ntmps21
  go_wp2_with fail
  refine c1.mono ?_
  rintro e w2 ⟨rfl, hb2⟩
  clear c1
  go_wp2_with fail
  go_ret
  exact ⟨rfl, hb2⟩
end Go.Proofs.Ytkfhkfddhijkcaa

namespace Go.Proofs.Ytkfhkfddhijkcaa
open Go.RowKit

/-- What holds behind each write that was asked: K are those known, N the lasts. -/
structure TgI (l : List Int) (K : List Wr) (N : List Int) : Prop where
  eq : N = ofL l K
  len : N.length = 12
  ok : (tst K).1 = true
  last : ∀ d : Nat, d < 12 → ∀ a, (tst K).2 d = some a → a = gI N d
  has : ∀ d : Nat, d < 12 → ∀ q : Int, gI l d < q → q ≤ gI N d → ∃ y, y ∈ K ∧ y.dev = (d : Int) ∧ y.seq = q
  low : ∀ y, y ∈ K → ∃ d : Nat, d < 12 ∧ y.dev = (d : Int) ∧ y.seq ≤ gI N d
  sml : ∀ j, 0 ≤ gI N j ∧ gI N j ≤ 40
  good : ∀ y, y ∈ K → y.good = true
theorem tgI_0 {l : List Int} (hl : l.length = 12) (hs : ∀ j, 0 ≤ gI l j ∧ gI l j ≤ 40) : TgI l [] l :=
  ⟨rfl, hl, rfl, (fun d _ a h => nomatch h), (fun d _ q h1 h2 => (by omega)), (fun y hy => nomatch hy), hs, (fun y hy => nomatch hy)⟩
theorem gI_set' {l : List Int} {j k : Nat} {v : Int} (hj : j < l.length) : gI (l.set j v) k = if j = k then v else gI l k := by
  by_cases hk : k < l.length
  · exact gI_set hk
  · rw [if_neg (by omega)]
    unfold gI
    rw [List.getElem?_set, if_neg (by omega)]
theorem TgI.next {l : List Int} {K : List Wr} {N : List Int} (h : TgI l K N) {x : Wr} {d : Nat} (hd : d < 12) (e : x.dev = (d : Int)) (hq : x.seq = gI N d + 1) (hx : x.seq ≤ 40) (hgx : x.good = true) : TgI l (K ++ [x]) (ofS N x) ∧ gI (ofS N x) d = gI N d + 1 := by
  have hN : ofS N x = N.set d (gI N d + 1) := by rw [ofS_yes hd e, hq, show max (gI N d) (gI N d + 1) = gI N d + 1 by omega]
  have hg : ∀ k, gI (ofS N x) k = if d = k then gI N d + 1 else gI N k := fun k => by rw [hN, gI_set' (by rw [h.len]; exact hd)]
  have ht : tst (K ++ [x]) = tstep (tst K) x := by unfold tst; rw [List.foldl_append]; rfl
  have hsd := h.sml d
  refine ⟨⟨?_, ofS_len h.len x, ?_, ?_, ?_, ?_, ?_, ?_⟩, by rw [hg, if_pos rfl]⟩
  · unfold ofL
    rw [List.foldl_append, ← show ofL l K = K.foldl ofS l from rfl, ← h.eq]
    rfl
  · rw [ht]
    unfold tstep
    show ((tst K).1 && okT ((tst K).2 x.dev) x.seq) = true
    rw [h.ok, Bool.true_and, e]
    cases hl : (tst K).2 (d : Int) with
    | none => rfl
    | some a =>
      have ea := h.last d hd a hl
      subst ea
      show (decide (gI N d < x.seq) && (IntKind.i64.wrap (gI N d + 1) == x.seq)) = true
      have wr : IntKind.i64.wrap (gI N d + 1) = gI N d + 1 := by
        generalize gI N d = y at hsd ⊢
        unfold IntKind.wrap
        simp [IntKind.bits, IntKind.signed]
        omega
      rw [wr, hq]
      simp
      omega
  · intro k hk a ha
    rw [ht] at ha
    unfold tstep at ha
    dsimp only at ha
    rw [hg]
    by_cases hkd : d = k
    · subst hkd
      rw [if_pos e.symm] at ha
      injection ha with ha
      rw [if_pos rfl, ← ha, hq]
    · rw [if_neg (by rw [e]; omega)] at ha
      rw [if_neg hkd]
      exact h.last k hk a ha
  · intro k hk q h1 h2
    rw [hg] at h2
    by_cases hkd : d = k
    · subst hkd
      rw [if_pos rfl] at h2
      by_cases h3 : q ≤ gI N d
      · obtain ⟨y, hy, h4⟩ := h.has d hd q h1 h3
        exact ⟨y, List.mem_append_left _ hy, h4⟩
      · exact ⟨x, by simp, e, by omega⟩
    · rw [if_neg hkd] at h2
      obtain ⟨y, hy, h4⟩ := h.has k hk q h1 h2
      exact ⟨y, List.mem_append_left _ hy, h4⟩
  · intro y hy
    rcases List.mem_append.1 hy with hy | hy
    · obtain ⟨k, hk, h1, h2⟩ := h.low y hy
      refine ⟨k, hk, h1, ?_⟩
      rw [hg]
      by_cases hkd : d = k
      · subst hkd; rw [if_pos rfl]; omega
      · rw [if_neg hkd]; exact h2
    · have ey : y = x := by simpa using hy
      subst ey
      exact ⟨d, hd, e, by rw [hg, if_pos rfl]; omega⟩
  · intro j
    rw [hg]
    have := h.sml j
    split <;> omega
  · intro y hy
    rcases List.mem_append.1 hy with hy | hy
    · exact h.good y hy
    · rw [show y = x by simpa using hy]
      exact hgx
theorem TgI.smlS {l : List Int} {K : List Wr} {N : List Int} (h : TgI l K N) : Sml N := ⟨h.len, fun j => by have := h.sml j; omega⟩
theorem isId_iff {d q : Int} {x : Wr} : isId d q x = true ↔ x.dev = d ∧ x.seq = q := by
  unfold isId
  rw [Bool.and_eq_true, beq_iff_eq, beq_iff_eq]
theorem findGo_neg (p : Wr → Bool) : ∀ (ws : List Wr) (i : Int), 0 ≤ i → (findGo p i ws < 0 ↔ ∀ x, x ∈ ws → p x = false)
  | [], i, _ => by simp [findGo]
  | a :: r, i, hi => by
    unfold findGo
    have ih := findGo_neg p r (i + 1) (by omega)
    cases ha : p a with
    | true =>
      constructor
      · intro h
        have h2 : i < 0 := h
        omega
      · intro h
        have := h a (List.mem_cons_self ..)
        rw [ha] at this
        cases this
    | false =>
      show findGo p (i + 1) r < 0 ↔ _
      rw [ih]
      constructor
      · intro h x hx
        rcases List.mem_cons.1 hx with e | hx
        · rw [e]; exact ha
        · exact h x hx
      · intro h x hx
        exact h x (List.mem_cons_of_mem _ hx)
theorem ask_cases {N : List Int} {d : Nat} (hd : d < 12) (q : Int) : (askI N d q = 0 ∧ q = gI N d + 1) ∨ (askI N d q = 6 ∧ q ≤ gI N d) ∨ (askI N d q = 15 ∧ gI N d + 1 < q) := by
  have e : lastI N d = gI N d := by
    unfold lastI nodeB
    rw [decide_eq_true (by omega), decide_eq_true (by omega), Int.toNat_natCast]
    rfl
  unfold askI
  rw [e]
  by_cases h1 : q ≤ gI N d
  · right; left
    rw [decide_eq_true h1]
    exact ⟨rfl, h1⟩
  · by_cases h2 : gI N d + 1 < q
    · right; right
      rw [decide_eq_false h1, decide_eq_true h2]
      exact ⟨rfl, h2⟩
    · left
      rw [decide_eq_false h1, decide_eq_false h2]
      exact ⟨rfl, by omega⟩
theorem TgI.old {l : List Int} {K : List Wr} {N : List Int} (h : TgI l K N) {d : Nat} (hd : d < 12) {q : Int} (hq : q ≤ gI N d) : (decide (findZ (d : Int) q K < 0) && decide (gI l d < q)) = false := by
  by_cases h1 : gI l d < q
  · obtain ⟨y, hy, e1, e2⟩ := h.has d hd q h1 hq
    rw [decide_eq_false, Bool.false_and]
    intro hf
    have := (findGo_neg (isId (d : Int) q) K 0 (Int.le_refl _)).1 hf y hy
    rw [isId_iff.2 ⟨e1, e2⟩] at this
    cases this
  · rw [decide_eq_false h1, Bool.and_false]
theorem TgI.ahead {l : List Int} {K : List Wr} {N : List Int} (h : TgI l K N) {d : Nat} {q : Int} (hq : gI N d + 1 < q) : decide (0 ≤ findZ (d : Int) q K) = false := by
  rw [decide_eq_false]
  have : findZ (d : Int) q K < 0 := by
    refine (findGo_neg (isId (d : Int) q) K 0 (Int.le_refl _)).2 fun y hy => ?_
    obtain ⟨k, hk, e1, e2⟩ := h.low y hy
    cases hi : isId (d : Int) q y with
    | false => rfl
    | true =>
      obtain ⟨e3, e4⟩ := isId_iff.1 hi
      have : k = d := by omega
      subst this
      omega
  omega
theorem TgI.none {l : List Int} {K : List Wr} {N : List Int} (h : TgI l K N) : leftL N K = [] := by
  unfold leftL
  rw [List.filter_eq_nil_iff]
  intro y hy
  obtain ⟨k, hk, e1, e2⟩ := h.low y hy
  unfold notOld
  rw [e1]
  rcases ask_cases hk y.seq (N := N) with ⟨_, h2⟩ | ⟨h1, _⟩ | ⟨_, h2⟩
  · omega
  · rw [h1]
    simp
  · omega
theorem glaB_40 {x : List Int} (hx : x.length = 12) (h : glaB x = true) : ∀ j, 0 ≤ gI x j ∧ gI x j ≤ 40 := fun j => by
  unfold glaB at h
  rw [Bool.and_eq_true, glaB_iff] at h
  by_cases hj : j < 12
  · exact h.1 j hj
  · unfold gI
    rw [List.getElem?_eq_none (by omega)]
    exact ⟨Int.le_refl _, show (0 : Int) ≤ 40 by decide⟩
theorem good_id {x : Wr} (h : x.good = true) : ∃ d : Nat, d < 12 ∧ x.dev = (d : Int) ∧ 1 ≤ x.seq ∧ x.seq ≤ 40 := by
  unfold Wr.good wrGoodB at h
  rw [Bool.and_eq_true] at h
  have h1 := of_decide_eq_true (show decide _ = true from h.1)
  exact ⟨x.dev.toNat, by omega, by omega, by omega, by omega⟩
end Go.Proofs.Ytkfhkfddhijkcaa

namespace Go.Proofs.Ytkfhkfddhijkcaa

abbrev zL : List Int := laL 0 0 0 0 0 0 0 0 0 0 0 0
theorem zL_gI (j : Nat) : gI zL j = 0 := by
  by_cases h : j < 12
  · have hc : j = 0 ∨ j = 1 ∨ j = 2 ∨ j = 3 ∨ j = 4 ∨ j = 5 ∨ j = 6 ∨ j = 7 ∨ j = 8 ∨ j = 9 ∨ j = 10 ∨ j = 11 := by omega
    rcases hc with rfl | rfl | rfl | rfl | rfl | rfl | rfl | rfl | rfl | rfl | rfl | rfl <;> rfl
  · unfold gI
    rw [List.getElem?_eq_none (by show 12 ≤ j; omega)]
    rfl
/-- Writes that were taken one after the other. -/
inductive Chn : List Wr → Prop
  | nil : Chn []
  | snoc {T : List Wr} {x : Wr} {d : Nat} (h : Chn T) (e : x.dev = (d : Int)) (hd : d < 12) (hq : x.seq = gI (ofL zL T) d + 1) (h4 : x.seq ≤ 40) (hg : x.good = true) : Chn (T ++ [x])
theorem Chn.tg {T : List Wr} (h : Chn T) : TgI zL T (ofL zL T) := by
  induction h with
  | nil => exact tgI_0 rfl fun j => by rw [zL_gI]; omega
  | @snoc T x d h e hd hq h4 hg ih =>
    have h2 := (ih.next hd e hq h4 hg).1
    have e2 : ofL zL (T ++ [x]) = ofS (ofL zL T) x := by unfold ofL; rw [List.foldl_append]; rfl
    rw [e2]
    exact h2
theorem Chn.fin {T : List Wr} (h : Chn T) {x : Wr} (hx : x ∈ T) : ∃ d : Nat, d < 12 ∧ x.dev = (d : Int) ∧ x.seq ≤ gI (ofL zL T) d := h.tg.low x hx
theorem notOld_is {M : List Int} {x : Wr} {d : Nat} (hd : d < 12) (e : x.dev = (d : Int)) : notOld M x = decide (gI M d < x.seq) := by
  unfold notOld
  rw [e]
  rcases ask_cases hd x.seq (N := M) with ⟨h1, h2⟩ | ⟨h1, h2⟩ | ⟨h1, h2⟩
  · rw [h1, decide_eq_true (by omega)]; rfl
  · rw [h1, decide_eq_false (by omega)]; rfl
  · rw [h1, decide_eq_true (by omega)]; rfl
theorem tst_snoc (A : List Wr) (x : Wr) : tst (A ++ [x]) = tstep (tst A) x := by unfold tst; rw [List.foldl_append]; rfl
theorem leftL_snoc (M : List Int) (T : List Wr) (x : Wr) : leftL M (T ++ [x]) = bif notOld M x then leftL M T ++ [x] else leftL M T := by
  unfold leftL
  rw [List.filter_append]
  cases h : notOld M x with
  | true => simp [h]
  | false => simp [h]
theorem ofL_snoc (l : List Int) (T : List Wr) (x : Wr) : ofL l (T ++ [x]) = ofS (ofL l T) x := by unfold ofL; rw [List.foldl_append]; rfl
theorem gI_ofS {N : List Int} (hl : N.length = 12) {x : Wr} {d : Nat} (hd : d < 12) (e : x.dev = (d : Int)) (k : Nat) : gI (ofS N x) k = if d = k then max (gI N d) x.seq else gI N k := by
  rw [ofS_yes hd e, gI_set' (by rw [hl]; exact hd)]
theorem Chn.left {T : List Wr} (h : Chn T) {M : List Int} : (tst (leftL M T)).1 = true ∧ ∀ d : Nat, d < 12 → ∀ a, (tst (leftL M T)).2 d = some a → a = gI (ofL zL T) d ∧ gI M d < a := by
  induction h with
  | nil => exact ⟨rfl, fun d _ a h => nomatch h⟩
  | @snoc T x d h e hd hq h4 hg ih =>
    have hn := h.tg.len
    have hv : ∀ k, gI (ofL zL (T ++ [x])) k = if d = k then x.seq else gI (ofL zL T) k := fun k => by
      rw [ofL_snoc, gI_ofS hn hd e k]
      split
      · omega
      · rfl
    have hs0 := h.tg.sml d
    rw [leftL_snoc, notOld_is hd e]
    by_cases ho : gI M d < x.seq
    · rw [decide_eq_true ho]
      show (tst (leftL M T ++ [x])).1 = true ∧ ∀ k : Nat, k < 12 → ∀ a, (tst (leftL M T ++ [x])).2 k = some a → _
      rw [tst_snoc]
      refine ⟨?_, fun k hk a ha => ?_⟩
      · unfold tstep
        show ((tst (leftL M T)).1 && okT ((tst (leftL M T)).2 x.dev) x.seq) = true
        rw [ih.1, Bool.true_and, e]
        cases hl : (tst (leftL M T)).2 (d : Int) with
        | none => rfl
        | some a =>
          obtain ⟨ea, _⟩ := ih.2 d hd a hl
          rw [← ea] at hq hs0
          show (decide (a < x.seq) && (IntKind.i64.wrap (a + 1) == x.seq)) = true
          have wr : IntKind.i64.wrap (a + 1) = a + 1 := by
            unfold IntKind.wrap
            simp [IntKind.bits, IntKind.signed]
            omega
          rw [wr, hq]
          simp
          omega
      · unfold tstep at ha
        dsimp only at ha
        rw [hv]
        by_cases hkd : d = k
        · subst hkd
          rw [if_pos e.symm] at ha
          injection ha with ha
          rw [if_pos rfl, ← ha]
          exact ⟨rfl, ho⟩
        · rw [if_neg (by rw [e]; omega)] at ha
          rw [if_neg hkd]
          exact ih.2 k hk a ha
    · rw [decide_eq_false ho]
      show (tst (leftL M T)).1 = true ∧ ∀ k : Nat, k < 12 → ∀ a, (tst (leftL M T)).2 k = some a → _
      refine ⟨ih.1, fun k hk a ha => ?_⟩
      obtain ⟨h1, h2⟩ := ih.2 k hk a ha
      rw [hv]
      by_cases hkd : d = k
      · subst hkd
        omega
      · rw [if_neg hkd]
        exact ⟨h1, h2⟩
/-- Nowhere below. -/
def LeL (a b : List Int) : Prop := ∀ j, gI a j ≤ gI b j
theorem mx_left {M : List Int} {j : Nat} : ∀ (ws : List Wr) (m : Int), (∀ x, x ∈ ws → ∃ d : Nat, d < 12 ∧ x.dev = (d : Int)) → gI M j ≤ m → mxI j m (leftL M ws) = mxI j m ws := by
  intro ws
  induction ws with
  | nil => intro m _ _; rfl
  | cons x r ih =>
    intro m hd hm
    obtain ⟨d, hd1, e⟩ := hd x (List.mem_cons_self ..)
    have hr : ∀ y, y ∈ r → ∃ d : Nat, d < 12 ∧ y.dev = (d : Int) := fun y hy => hd y (List.mem_cons_of_mem _ hy)
    unfold leftL
    rw [List.filter_cons, notOld_is hd1 e]
    by_cases ho : gI M d < x.seq
    · rw [decide_eq_true ho, if_pos rfl]
      show mxI j (if x.dev = (j : Int) then max m x.seq else m) (leftL M r) = mxI j (if x.dev = (j : Int) then max m x.seq else m) r
      refine ih _ hr ?_
      split <;> omega
    · rw [decide_eq_false ho, if_neg (by decide)]
      show mxI j m (leftL M r) = mxI j (if x.dev = (j : Int) then max m x.seq else m) r
      rw [ih m hr hm]
      by_cases hj : x.dev = (j : Int)
      · rw [if_pos hj]
        have : d = j := by omega
        subst this
        rw [show max m x.seq = m by omega]
      · rw [if_neg hj]
theorem Chn.dev {T : List Wr} (h : Chn T) : ∀ x, x ∈ T → ∃ d : Nat, d < 12 ∧ x.dev = (d : Int) := fun x hx => by
  obtain ⟨d, h1, h2, _⟩ := h.fin hx
  exact ⟨d, h1, h2⟩
theorem Chn.lasts {T : List Wr} (h : Chn T) {M : List Int} (hm : M.length = 12) (h0 : ∀ j, 0 ≤ gI M j) (hle : LeL M (ofL zL T)) : ofL M (leftL M T) = ofL zL T := by
  refine (ofL_eq hm (ofL_len rfl T) fun j hj => ?_).symm
  rw [mx_left T _ h.dev (Int.le_refl _), gI_ofL hj T zL rfl, zL_gI]
  have h1 := hle j
  rw [gI_ofL hj T zL rfl, zL_gI] at h1
  have h2 := mxI_max j T 0 (gI M j)
  rw [show max 0 (gI M j) = gI M j by have := h0 j; omega] at h2
  omega
theorem Chn.settle {T : List Wr} (h : Chn T) {M M2 : List Int} (hle : LeL M M2) : leftL M2 (leftL M T) = leftL M2 T := by
  unfold leftL
  rw [List.filter_filter]
  refine List.filter_congr fun x hx => ?_
  obtain ⟨d, hd, e⟩ := h.dev x hx
  rw [notOld_is hd e, notOld_is hd e]
  have := hle d
  by_cases h2 : gI M2 d < x.seq
  · rw [decide_eq_true h2, decide_eq_true (by omega)]; rfl
  · rw [decide_eq_false h2, Bool.false_and]
theorem gI_out {l : List Int} (h : l.length = 12) {j : Nat} (hj : ¬ j < 12) : gI l j = 0 := by
  unfold gI
  rw [List.getElem?_eq_none (by omega)]
  rfl
/-- What is known grows by some of those that were taken. -/
theorem Chn.grow {T : List Wr} (h : Chn T) {M : List Int} (hm : M.length = 12) (h0 : ∀ j, 0 ≤ gI M j) (hle : LeL M (ofL zL T)) (n : Nat) : (ofL M (T.take n)).length = 12 ∧ LeL M (ofL M (T.take n)) ∧ LeL (ofL M (T.take n)) (ofL zL T) := by
  have hl := ofL_len hm (T.take n)
  refine ⟨hl, fun j => ?_, fun j => ?_⟩
  · by_cases hj : j < 12
    · rw [gI_ofL hj _ M hm]
      exact mxI_le _ _ _
    · rw [gI_out hm hj, gI_out hl hj]
      exact Int.le_refl _
  · by_cases hj : j < 12
    · have h1 := hle j
      rw [gI_ofL hj _ M hm, gI_ofL hj T zL rfl, zL_gI]
      rw [gI_ofL hj T zL rfl, zL_gI] at h1
      have h2 := mxI_max j T 0 (gI M j)
      rw [show max 0 (gI M j) = gI M j by have := h0 j; omega] at h2
      have h3 : mxI j (gI M j) T = mxI j (mxI j (gI M j) (T.take n)) (T.drop n) := by rw [← mxI_app, List.take_append_drop]
      have h4 := mxI_le j (T.drop n) (mxI j (gI M j) (T.take n))
      omega
    · rw [gI_out hl hj, gI_out (ofL_len rfl T) hj]
      exact Int.le_refl _
theorem Chn.sml {T : List Wr} (h : Chn T) : ∀ j, 0 ≤ gI (ofL zL T) j ∧ gI (ofL zL T) j ≤ 40 := h.tg.sml
theorem Chn.new {T : List Wr} (h : Chn T) {M : List Int} (hle : LeL M (ofL zL T)) {x : Wr} {d : Nat} (e : x.dev = (d : Int)) (hd : d < 12) (hq : x.seq = gI (ofL zL T) d + 1) : leftL M (T ++ [x]) = leftL M T ++ [x] := by
  rw [leftL_snoc, notOld_is hd e, decide_eq_true (by have := hle d; omega)]
  rfl
theorem Chn.le {T : List Wr} (h : Chn T) {x : Wr} {d : Nat} (e : x.dev = (d : Int)) (hd : d < 12) (hq : x.seq = gI (ofL zL T) d + 1) {M : List Int} (hm : M.length = 12) (hle : LeL M (ofL zL T)) : LeL M (ofL zL (T ++ [x])) := fun j => by
  rw [ofL_snoc, gI_ofS h.tg.len hd e j]
  have := hle j
  split
  · rename_i h2
    subst h2
    omega
  · exact this
theorem left_low {M : List Int} {T : List Wr} (h : Chn T) {x : Wr} (hx : x ∈ leftL M T) : ∃ d : Nat, d < 12 ∧ x.dev = (d : Int) ∧ gI M d < x.seq := by
  have h1 := List.mem_filter.1 hx
  obtain ⟨d, hd, e⟩ := h.dev x h1.1
  have h2 := h1.2
  rw [notOld_is hd e] at h2
  exact ⟨d, hd, e, of_decide_eq_true h2⟩
theorem Chn.good {T : List Wr} (h : Chn T) {x : Wr} (hx : x ∈ T) : x.good = true := h.tg.good x hx
end Go.Proofs.Ytkfhkfddhijkcaa

namespace Go.Proofs.Ytkfhkfddhijkcaa
open Go.RowKit

theorem en_spinney_spinneylaw14_w : ∀ args w, (callFunc 24 args).run Try.prog w = .ok (.enter 24 args) w := enters_of Try.func24 (by kernel_rfl) rfl
theorem en_spinney_spinneylaw14_awake : ∀ args w, (callFunc 15 args).run Try.prog w = .ok (.enter 15 args) w := enters_of Try.func15 (by kernel_rfl) rfl

/-- The law's write of an id. -/
abbrev wW (d k : Int) : Wr := ⟨d, k, 2, ⟨#[107]⟩, 0, 0, ⟨#[]⟩, 0, 0, ⟨#[]⟩⟩
theorem wW_fit (d k : Int) : Fit (wW d k) := ⟨show (1 : Nat) ≤ 1000000 by omega, show (0 : Nat) ≤ 1000000 by omega, show (0 : Nat) ≤ 1000000 by omega⟩
theorem x_bdQ {P : Program} {w : World} {ρ : Operand → Value} {d : Option Tmp} {t : TypeId} {fs : Array (Nat × Operand)} {vs : Array (Nat × Value)} {ty : TypeId} {p : String} {af : Array Edge} {gd : Option (Nat × Bool)} {v : Value} (h : fs.map (fun y => (y.fst, ρ y.snd)) = vs) (hr : (Instr.build t vs).run P w = .ok v w) : (execOp ρ ⟨d, .build t fs, ty, p, af, gd⟩).run P w = .ok (.value v) w := by
  rw [← h] at hr
  unfold execOp
  dsimp only
  rw [Sem.run_bind]
  exact (congrArg (fun r => Result.andThen r _) hr).trans rfl
theorem bdIdQ (d k : Int) (w : World) : (Instr.build 32 #[(0, .int .i64 d), (1, .int .i64 k)]).run Try.prog w = .ok (.agg #[.int .i64 d, .int .i64 k]) w := by kernel_rfl
theorem bdOpQ (w : World) : (Instr.build 37 #[(0, .int .i64 2), (1, .string ⟨#[107]⟩)]).run Try.prog w = .ok (.agg #[.int .i64 2, .string ⟨#[107]⟩, .int .i64 0, .int .i64 0, .string ⟨#[]⟩, .int .i64 0, .int .i64 0, .string ⟨#[]⟩]) w := by kernel_rfl
theorem bdWrQ (d k : Int) (w : World) : (Instr.build 39 #[(0, .agg #[.int .i64 d, .int .i64 k]), (1, .agg #[.int .i64 2, .string ⟨#[107]⟩, .int .i64 0, .int .i64 0, .string ⟨#[]⟩, .int .i64 0, .int .i64 0, .string ⟨#[]⟩])]).run Try.prog w = .ok (.agg (wW d k).cells) w := by kernel_rfl
set_option maxRecDepth 100000 in
set_option maxHeartbeats 4000000 in
theorem w14_any (d k : Int) (w : World) : Calls Try.prog 24 #[.int .i64 d, .int .i64 k] w fun e w' => e = .returned (.agg (wW d k).cells) ∧ Below w.heap.size w w' := by
  have hX0 := blk_new w (wrI 0 0 0 ⟨#[]⟩ 0 0 ⟨#[]⟩ 0 0 ⟨#[]⟩) 39
  have hB := b0 w (.cells (wrI 0 0 0 ⟨#[]⟩ 0 0 ⟨#[]⟩ 0 0 ⟨#[]⟩) 39)
  have hzz : (w.alloc (.cells (wrI 0 0 0 ⟨#[]⟩ 0 0 ⟨#[]⟩ 0 0 ⟨#[]⟩) 39)).heap.size = w.heap.size + 1 := by simp
  go_enter Try.func24, Try.ntmps24
  go_upto_region 1 with fail
  generalize (w.alloc (.cells (wrI 0 0 0 ⟨#[]⟩ 0 0 ⟨#[]⟩ 0 0 ⟨#[]⟩) 39)) = W0 at hX0 hB hzz ⊢
  generalize hb : w.heap.size = b at hX0 hB hzz ⊢
  refine wp_region_lit ?_
  refine fl_start ?_
  generalize ha : Act.mk _ _ = a0
  have hn : a0.tmps.size = 10 := by rw [← ha]; kernel_rfl
  have h0 : (fr a0 []).eval (.tmp 0) = .int .i64 d := by rw [← ha]; kernel_rfl
  refine fl_know hn rfl h0 ?_
  clear h0
  have h1 : (fr a0 [(0, true, .int .i64 d)]).eval (.tmp 1) = .int .i64 k := by rw [← ha]; kernel_rfl
  refine fl_know hn rfl h1 ?_
  clear h1
  have h4 : (fr a0 [(1, true, .int .i64 k), (0, true, .int .i64 d)]).eval (.tmp 4) = .pointer (some ⟨b, 0, none⟩) := by rw [← ha]; kernel_rfl
  refine fl_know hn rfl h4 ?_
  clear h4
  refine g_mv hn ?_
  refine g_mv hn ?_
  refine fl_op (v := .agg #[.int .i64 d, .int .i64 k]) hn rfl (by rfl) rfl (fun hk _ => x_bdQ (by simp only [List.map_toArray, List.map_cons, List.map_nil, lk_at hk (i := 5) rfl (fun _ => rfl) rfl, lk_at hk (i := 6) rfl (fun _ => rfl) rfl]) (bdIdQ d k W0)) ?_
  refine fl_op (v := .agg #[.int .i64 2, .string ⟨#[107]⟩, .int .i64 0, .int .i64 0, .string ⟨#[]⟩, .int .i64 0, .int .i64 0, .string ⟨#[]⟩]) hn rfl (by rfl) rfl (fun hk _ => x_bdQ (by simp only [List.map_toArray, List.map_cons, List.map_nil]; rfl) (bdOpQ W0)) ?_
  refine fl_op (v := .agg (wW d k).cells) hn rfl (by rfl) rfl (fun hk _ => x_bdQ (by simp only [List.map_toArray, List.map_cons, List.map_nil, lk_at hk (i := 7) rfl (fun _ => rfl) rfl, lk_at hk (i := 8) rfl (fun _ => rfl) rfl]) (bdWrQ d k W0)) ?_
  refine g_str hX0 ?_ (h1 := wr_oneC (wW d k))
  intro w2 ho hX2
  refine fl_end ?_
  clear hn
  subst ha
  dsimp only [fr, cnd, Act.put, cond_true]
  simp only [List.setIfInBounds_toArray, List.set_cons_zero, List.set_cons_succ]
  have hB2 := hB.trans (ho.below (Nat.le_refl _))
  clear hX0 hB ho
  go_wp2_with fail
  refine bodyPost_ret (results_cell_row Try.results24 _ _ (b) 39 (wW d k).cells (0, 0) _ (by rfl) hX2 Try.underlying39 (by rfl) (by kernel_rfl)) rfl ?_
  exact ⟨rfl, by first | exact hB2 | (rw [hb]; exact hB2)⟩
end Go.Proofs.Ytkfhkfddhijkcaa

namespace Go.Proofs.Ytkfhkfddhijkcaa
open Go.RowKit

theorem QTook.fail {q : Nat} {room : Int} {A : Option Addr} {n c : Nat} {ws : List Wr} {x : Wr} {code : Int} {w w' : World} (h : QTook q room A n c ws x code w w') (hc : code ≠ 0) : QuW w' q room A n c ws ∧ Below w.heap.size w w' := by
  rcases h with ⟨_, h2, h3⟩ | ⟨h1, _⟩
  · exact ⟨h2, h3⟩
  · exact absurd h1 hc
theorem QTook.ok {q : Nat} {room : Int} {A : Option Addr} {n c : Nat} {ws : List Wr} {x : Wr} {code : Int} {w w' : World} (h : QTook q room A n c ws x code w w') (hc : code = 0) : ∃ A' n' c', QuW w' q room A' n' c' (ws ++ [x]) ∧ QuK q A w w' ∧ (A'.map (·.block) = A.map (·.block) ∨ ∀ a, A' = some a → w.heap.size ≤ a.block) := by
  rcases h with ⟨h1, _⟩ | ⟨_, h2⟩
  · exact absurd hc h1
  · exact h2
theorem QuK.keep {q : Nat} {room : Int} {A : Option Addr} {n c : Nat} {ws : List Wr} {w w' : World} (h : QuK q A w w') (hQ : QuW w q room A n c ws) {p : Nat} {cs : Array Value} {T : TypeId} (hX : Blk w p cs T) (hq : p ≠ q) (hT : T ≠ tWr) : Blk w' p cs T := h.blk hX hq (own_ne hQ.own hX hT)
theorem lt_ne : (29 : TypeId) ≠ tWr := by decide
theorem mxI_up (j : Nat) (B : Int) (ws : List Wr) : ∀ m : Int, m ≤ B → (∀ x, x ∈ ws → x.seq ≤ B) → mxI j m ws ≤ B := by
  induction ws with
  | nil => intro m h _; exact h
  | cons x r ih =>
    intro m hm h
    show mxI j (if x.dev = (j : Int) then max m x.seq else m) r ≤ B
    have := h x (List.mem_cons_self ..)
    refine ih _ ?_ fun y hy => h y (List.mem_cons_of_mem _ hy)
    split <;> omega
theorem ofL_sml {l : List Int} (hl : Sml l) {ws : List Wr} (h : ∀ x, x ∈ ws → x.seq ≤ 1000) : Sml (ofL l ws) := by
  refine ⟨ofL_len hl.1 ws, fun j => ?_⟩
  by_cases hj : j < 12
  · rw [gI_ofL hj ws l hl.1]
    have h1 := mxI_le j ws (gI l j)
    have h2 := mxI_up j 1000 ws (gI l j) (hl.2 j).2 h
    have := (hl.2 j).1
    omega
  · rw [gI_out (ofL_len hl.1 ws) hj]
    exact ⟨Int.le_refl _, by decide⟩
theorem mxI_other (j : Nat) (ws : List Wr) : ∀ m : Int, (∀ x, x ∈ ws → x.dev ≠ (j : Int)) → mxI j m ws = m := by
  induction ws with
  | nil => intro m _; rfl
  | cons x r ih =>
    intro m h
    show mxI j (if x.dev = (j : Int) then max m x.seq else m) r = m
    rw [if_neg (h x (List.mem_cons_self ..))]
    exact ih m fun y hy => h y (List.mem_cons_of_mem _ hy)
theorem zL_sml : Sml zL := ⟨rfl, fun j => by rw [zL_gI]; exact ⟨Int.le_refl _, by decide⟩⟩
theorem takeI_of {room : Int} {l : List Int} {ws : List Wr} {x : Wr} {a : Int} (h : askI (ofL l ws) x.dev x.seq = a) (h0 : a ≠ 0) : takeI room l ws x = a := by unfold takeI; rw [h, if_neg h0]
theorem takeI_full {room : Int} {l : List Int} {ws : List Wr} {x : Wr} (h : askI (ofL l ws) x.dev x.seq = 0) (hr : room ≤ (ws.length : Int)) : takeI room l ws x = 3 := by unfold takeI; rw [h, if_pos rfl, if_pos hr]
theorem takeI_ok {room : Int} {l : List Int} {ws : List Wr} {x : Wr} (h : askI (ofL l ws) x.dev x.seq = 0) (hr : ¬ room ≤ (ws.length : Int)) : takeI room l ws x = 0 := by unfold takeI; rw [h, if_pos rfl, if_neg hr]
theorem alLa (w : World) : (Instr.alloc 29 true (.tuple #[])).run Try.prog w = .ok (.pointer (some ⟨w.heap.size, 0, none⟩)) (w.alloc (.cells (liA zL) 29)) := by kernel_rfl
theorem bdLa0 (w : World) : (Instr.build 29 #[]).run Try.prog w = .ok (.agg (liA zL)) w := by kernel_rfl
abbrev oneL : List Int := laL 0 1 0 0 0 0 0 0 0 0 0 0
theorem bdLa1 (w : World) : (Instr.build 29 #[(1, .int .i64 1)]).run Try.prog w = .ok (.agg (liA oneL)) w := by kernel_rfl
theorem oneL_gI (j : Nat) : gI oneL j = if j = 1 then 1 else 0 := by
  by_cases h : j < 12
  · have hc : j = 0 ∨ j = 1 ∨ j = 2 ∨ j = 3 ∨ j = 4 ∨ j = 5 ∨ j = 6 ∨ j = 7 ∨ j = 8 ∨ j = 9 ∨ j = 10 ∨ j = 11 := by omega
    rcases hc with rfl | rfl | rfl | rfl | rfl | rfl | rfl | rfl | rfl | rfl | rfl | rfl <;> rfl
  · unfold gI
    rw [List.getElem?_eq_none (by show 12 ≤ j; omega), if_neg (by omega)]
    rfl
theorem oneL_sml : Sml oneL := ⟨rfl, fun j => by rw [oneL_gI]; split <;> decide⟩
end Go.Proofs.Ytkfhkfddhijkcaa

namespace Go.Proofs.Ytkfhkfddhijkcaa
open Go.RowKit

set_option maxRecDepth 100000 in
set_option maxHeartbeats 4000000 in
theorem awake14_any (w : World) : Calls Try.prog 15 #[] w fun e w' => e = .returned (.bool true) ∧ Below w.heap.size w w' := by
  go_enter Try.func15, Try.ntmps15
  go_wp2_with fail
  refine (qNew_any 3 w (by decide) (by decide)).mono ?_
  rintro e w1 ⟨q, rfl, hq, hQ, hB⟩
  go_upto_region 4 with fail
  refine wp_region_lit ?_
  refine fl_start ?_
  generalize ha : Act.mk _ _ = a0
  have hn : a0.tmps.size = 45 := by rw [← ha]; kernel_rfl
  refine fl_op (v := .agg (liA zL)) hn rfl (by rfl) rfl (fun hk _ => x_bdQ (vs := #[]) (by simp) (bdLa0 w1)) ?_
  refine al_row hn (alLa w1) ?_
  intro z w2 hz hZ1 hB2
  refine g_str hZ1 ?_ (h1 := li_one zL) (hi := by kernel_rfl)
  intro w3 ho hZ
  refine fl_end ?_
  clear hn
  subst ha
  dsimp only [fr, cnd, Act.put, cond_true]
  simp only [List.setIfInBounds_toArray, List.set_cons_zero, List.set_cons_succ]
  have hqz : q < z := by have := hQ.blk.lt; omega
  replace hB2 := hB2.trans (ho.below (by omega))
  replace hQ := hQ.keep hB2
  replace hB := hB.trans (hB2.mono hB.size)
  clear hZ1 hB2 ho
  go_upto_region 5 with fail
  have ld : ∀ W, Blk W z (liA zL) 29 → _ := fun W h => ld_liL h rfl
  have bd : ∀ W, Blk W z (liA zL) 29 → _ := fun W _ => bdLa1 W
  refine fh_start (S := (fun W => Blk W z (liA zL) 29)) (by kernel_rfl) (hZ) (fun hS => ?_)
  generalize ha : Act.mk _ _ = a0
  have hn : a0.tmps.size = 45 := by rw [← ha]; kernel_rfl
  have h1 : (fr a0 []).eval (.tmp 1) = .pointer (some ⟨q, 0, none⟩) := by rw [← ha]; kernel_rfl
  refine fh_know hn rfl h1 ?_
  clear h1
  have h3 : (fr a0 [(1, true, .pointer (some ⟨q, 0, none⟩))]).eval (.tmp 3) = .pointer (some ⟨z, 0, none⟩) := by rw [← ha]; kernel_rfl
  refine fh_know hn rfl h3 ?_
  clear h3
  clear hS
  have hZ0 : Blk (World.drew w3) z (liA zL) 29 := hZ
  have hQ0 : QuW (World.drew w3) q 3 none 0 0 ([] : List Wr) := ⟨hQ.blk, hQ.own, hQ.fit⟩
  have hB0 := Below.drew hB
  refine h_mv 0 hn hZ0 ?_
  refine h_ld 1 hn hZ0 ?_
  refine fh_callx 2 (d := 17) (R := fun v w' => v = .agg (wW 1 1).cells ∧ Below (World.drew w3).heap.size (World.drew w3) w') hn rfl (fun hk => call2_is en_spinney_spinneylaw14_w _ _ _ _ _ _ _ _ _ (.int .i64 1) (.int .i64 1) (rfl) (rfl) rfl) ((w14_any 1 1 _).mono fun _ _ ⟨he, hb2⟩ => ⟨_, he, rfl, hb2⟩) ?_ rfl rfl (by kernel_rfl) rfl
  rintro v v1 ⟨rfl, hb1⟩
  have hZ1 := Blk.keep hZ0 hb1
  have hQ1 := QuW.keep hQ0 hb1
  have hB1 := hB0.trans (hb1.mono hB0.size)
  refine ⟨hZ1, ?_⟩
  have hc2 := (takeI_ok (room := 3) (l := zL) (ws := []) (x := wW 1 1) (by decide) (by decide))
  refine fh_callx 3 (d := 18) (R := fun v w' => v = .int .i64 0 ∧ QTook q 3 none 0 0 ([] : List Wr) (wW 1 1) 0 v1 w') hn rfl (fun hk => call3_is en_spinney_queue_Queue_Take _ _ _ _ _ _ _ _ _ _ _ _ _ (lk_at hk (i := 15) rfl (fun _ => rfl) rfl) (lk_at hk (i := 16) rfl (fun _ => rfl) rfl) (lk_at hk (i := 17) rfl (fun _ => rfl) rfl) rfl) ((qTake_any q 3 none 0 0 ([] : List Wr) zL (wW 1 1) v1 hQ1 rfl (ofL_sml zL_sml (by decide)) (wW_fit _ _) (by decide)).mono fun _ _ ⟨he, hb2⟩ => ⟨_, he, by rw [hc2], by rw [← hc2]; exact hb2⟩) ?_ rfl rfl (by kernel_rfl) rfl
  rintro v v2 ⟨rfl, ht2⟩
  obtain ⟨A2, n2, c2, hQ2, hk2, ha2⟩ := ht2.ok rfl
  have hZ2 := hk2.keep hQ1 hZ1 (by omega) lt_ne
  have hB2 := hB1.trans (hk2.below (B := w.heap.size) hq (fun x hx => hQ1.above x hx) hB1.size)
  refine ⟨hZ2, ?_⟩
  refine h_bc 4 hn hZ2 ?_ (hx := fun W _ => er_eql _ _ _ W)
  refine h_mv 5 hn hZ2 ?_
  refine h_mv 6 hn hZ2 ?_
  refine h_ld 7 hn hZ2 ?_
  refine fh_callx 8 (d := 23) (R := fun v w' => v = .agg (wW 1 3).cells ∧ Below v2.heap.size v2 w') hn rfl (fun hk => call2_is en_spinney_spinneylaw14_w _ _ _ _ _ _ _ _ _ (.int .i64 1) (.int .i64 3) (rfl) (rfl) rfl) ((w14_any 1 3 _).mono fun _ _ ⟨he, hb2⟩ => ⟨_, he, rfl, hb2⟩) ?_ rfl rfl (by kernel_rfl) rfl
  rintro v v3 ⟨rfl, hb3⟩
  have hZ3 := Blk.keep hZ2 hb3
  have hQ3 := QuW.keep hQ2 hb3
  have hB3 := hB2.trans (hb3.mono hB2.size)
  refine ⟨hZ3, ?_⟩
  have hc4 := (takeI_of (room := 3) (l := zL) (ws := [] ++ [wW 1 1]) (x := wW 1 3) (a := 15) (by decide) (by decide))
  refine fh_callx 9 (d := 24) (R := fun v w' => v = .int .i64 15 ∧ QTook q 3 A2 n2 c2 (([] : List Wr) ++ [wW 1 1]) (wW 1 3) 15 v3 w') hn rfl (fun hk => call3_is en_spinney_queue_Queue_Take _ _ _ _ _ _ _ _ _ _ _ _ _ (lk_at hk (i := 21) rfl (fun _ => rfl) rfl) (lk_at hk (i := 22) rfl (fun _ => rfl) rfl) (lk_at hk (i := 23) rfl (fun _ => rfl) rfl) rfl) ((qTake_any q 3 A2 n2 c2 (([] : List Wr) ++ [wW 1 1]) zL (wW 1 3) v3 hQ3 rfl (ofL_sml zL_sml (by decide)) (wW_fit _ _) (by have := hQ3.len; simp at this; omega)).mono fun _ _ ⟨he, hb2⟩ => ⟨_, he, by rw [hc4], by rw [← hc4]; exact hb2⟩) ?_ rfl rfl (by kernel_rfl) rfl
  rintro v v4 ⟨rfl, ht4⟩
  obtain ⟨hQ4, hb4⟩ := ht4.fail (by decide)
  have hZ4 := Blk.keep hZ3 hb4
  have hB4 := hB3.trans (hb4.mono hB3.size)
  refine ⟨hZ4, ?_⟩
  refine h_bc 10 hn hZ4 ?_ (hx := fun W _ => er_eql _ _ _ W)
  refine h_op 11 hn hZ4 (fun W _ hk => x_an (fun _ => rfl) (lk_at hk (i := 20) rfl (fun _ => rfl) rfl) (fun _ => lk_at hk (i := 25) rfl (fun _ => rfl) rfl)) ?_
  refine h_mv 12 hn hZ4 ?_
  refine h_mv 13 hn hZ4 ?_
  refine h_ld 14 hn hZ4 ?_
  refine fh_callx 15 (d := 30) (R := fun v w' => v = .agg (wW 1 1).cells ∧ Below v4.heap.size v4 w') hn rfl (fun hk => call2_is en_spinney_spinneylaw14_w _ _ _ _ _ _ _ _ _ (.int .i64 1) (.int .i64 1) (rfl) (rfl) rfl) ((w14_any 1 1 _).mono fun _ _ ⟨he, hb2⟩ => ⟨_, he, rfl, hb2⟩) ?_ rfl rfl (by kernel_rfl) rfl
  rintro v v5 ⟨rfl, hb5⟩
  have hZ5 := Blk.keep hZ4 hb5
  have hQ5 := QuW.keep hQ4 hb5
  have hB5 := hB4.trans (hb5.mono hB4.size)
  refine ⟨hZ5, ?_⟩
  have hc6 := (takeI_of (room := 3) (l := zL) (ws := [] ++ [wW 1 1]) (x := wW 1 1) (a := 6) (by decide) (by decide))
  refine fh_callx 16 (d := 31) (R := fun v w' => v = .int .i64 6 ∧ QTook q 3 A2 n2 c2 (([] : List Wr) ++ [wW 1 1]) (wW 1 1) 6 v5 w') hn rfl (fun hk => call3_is en_spinney_queue_Queue_Take _ _ _ _ _ _ _ _ _ _ _ _ _ (lk_at hk (i := 28) rfl (fun _ => rfl) rfl) (lk_at hk (i := 29) rfl (fun _ => rfl) rfl) (lk_at hk (i := 30) rfl (fun _ => rfl) rfl) rfl) ((qTake_any q 3 A2 n2 c2 (([] : List Wr) ++ [wW 1 1]) zL (wW 1 1) v5 hQ5 rfl (ofL_sml zL_sml (by decide)) (wW_fit _ _) (by have := hQ5.len; simp at this; omega)).mono fun _ _ ⟨he, hb2⟩ => ⟨_, he, by rw [hc6], by rw [← hc6]; exact hb2⟩) ?_ rfl rfl (by kernel_rfl) rfl
  rintro v v6 ⟨rfl, ht6⟩
  obtain ⟨hQ6, hb6⟩ := ht6.fail (by decide)
  have hZ6 := Blk.keep hZ5 hb6
  have hB6 := hB5.trans (hb6.mono hB5.size)
  refine ⟨hZ6, ?_⟩
  refine h_bc 17 hn hZ6 ?_ (hx := fun W _ => er_eql _ _ _ W)
  refine h_op 18 hn hZ6 (fun W _ hk => x_an (fun _ => rfl) (lk_at hk (i := 27) rfl (fun _ => rfl) rfl) (fun _ => lk_at hk (i := 32) rfl (fun _ => rfl) rfl)) ?_
  refine h_mv 19 hn hZ6 ?_
  refine h_mv 20 hn hZ6 ?_
  refine h_op 21 hn hZ6 (fun W _ hk => x_bdQ (fs := #[(1, .const (.int .i64 1))]) (vs := #[(1, .int .i64 1)]) (by first | rfl | (simp only [List.map_toArray, List.map_cons, List.map_nil]; rfl)) (bdLa1 W)) ?_
  have hv7 := (show (([] ++ [wW 1 1] : List Wr).length : Int) - ((leftL oneL ([] ++ [wW 1 1])).length : Int) = 1 by decide)
  refine fh_callx 22 (d := 37) (R := fun v w' => v = .int .i64 1 ∧ ∃ A' n' c', QuW w' q 3 A' n' c' (leftL oneL (([] : List Wr) ++ [wW 1 1])) ∧ QuK q A2 v6 w' ∧ ∀ a, A' = some a → v6.heap.size ≤ a.block) hn rfl (fun hk => call2_is en_spinney_queue_Queue_Settle _ _ _ _ _ _ _ _ _ _ _ (lk_at hk (i := 35) rfl (fun _ => rfl) rfl) (lk_at hk (i := 36) rfl (fun _ => rfl) rfl) rfl) ((qSettle_any q 3 A2 n2 c2 (([] : List Wr) ++ [wW 1 1]) oneL v6 hQ6 oneL_sml (by have := hQ6.len; simp at this; omega)).mono fun _ _ ⟨he, hb2⟩ => ⟨_, he, by rw [hv7], hb2⟩) ?_ rfl rfl (by kernel_rfl) rfl
  rintro v v7 ⟨rfl, A7, n7, c7, hQ7, hk7, ha7⟩
  have hZ7 := hk7.keep hQ6 hZ6 (by omega) lt_ne
  have hB7 := hB6.trans (hk7.below (B := w.heap.size) hq (fun x hx => hQ6.above x hx) hB6.size)
  refine ⟨hZ7, ?_⟩
  refine h_eql 23 hn hZ7 ?_
  refine h_op 24 hn hZ7 (fun W _ hk => x_an (fun _ => rfl) (lk_at hk (i := 34) rfl (fun _ => rfl) rfl) (fun _ => lk_at hk (i := 38) rfl (fun _ => rfl) rfl)) ?_
  refine h_mv 25 hn hZ7 ?_
  refine h_mv 26 hn hZ7 ?_
  have hv8 := (show (n7 : Int) = 0 from (by have h := hQ7.len; have e : (leftL oneL ([] ++ [wW 1 1])).length = 0 := (by decide); omega))
  refine fh_callx 27 (d := 42) (R := fun v w' => v = .int .i64 0 ∧ w' = v7) hn rfl (fun hk => call1_is en_spinney_queue_Queue_Len _ _ _ _ _ _ _ _ _ (lk_at hk (i := 41) rfl (fun _ => rfl) rfl) rfl) ((qLen_any q 3 A7 n7 c7 (leftL oneL (([] : List Wr) ++ [wW 1 1])) v7 hQ7).mono fun _ _ ⟨he, hb2⟩ => ⟨_, he, by rw [hv8], hb2⟩) ?_ rfl rfl (by kernel_rfl) rfl
  rintro v v8 ⟨rfl, rfl⟩
  refine ⟨hZ7, ?_⟩
  refine h_eql 28 hn hZ7 ?_
  refine h_op 29 hn hZ7 (fun W _ hk => x_an (fun _ => rfl) (lk_at hk (i := 40) rfl (fun _ => rfl) rfl) (fun _ => lk_at hk (i := 43) rfl (fun _ => rfl) rfl)) ?_
  refine h_as 30 hn hZ7 ?_
  refine fh_end (by kernel_rfl) ?_
  clear hn
  subst ha
  dsimp only [fr, cnd, Act.put, cond_true]
  simp only [List.setIfInBounds_toArray, List.set_cons_zero, List.set_cons_succ]
  have hBn := hB7
  clear ld bd
  go_wp2_with fail
  go_ret
  exact ⟨rfl, hBn⟩
end Go.Proofs.Ytkfhkfddhijkcaa

namespace Go.Proofs.Ytkfhkfddhijkcaa
open Go.RowKit

theorem rem_u8c (i : Nat) (W : World) (z : Nat) : ((do eqGuard .rem 5 (.tmp i) (.const (.int .u8 30)) (.int .u8 (z : Int)) (.int .u8 30); binOp .rem 5 (.int .u8 (z : Int)) (.int .u8 30)) : Sem Value).run Try.prog W = .ok (.int .u8 ((z % 30 : Nat) : Int)) W := by
  have m1 : Int.tmod (z : Int) 30 = ((z % 30 : Nat) : Int) := rfl
  rw [← m1]
  clear m1
  unfold binOp
  simp only [eqGuard, go_sem]
  simp
set_option maxRecDepth 100000 in
theorem cv_8i (W : World) {y : Nat} (h : y ≤ 1000) : (convert 5 3 (.int .u8 (y : Int))).run Try.prog W = .ok (.int .i64 (y : Int)) W := by
  have h2 : (convert 5 3 (.int .u8 (y : Int))).run Try.prog W = .ok (.int .i64 (IntKind.i64.wrap (y : Int))) W := run_convert_int (P := Try.prog) (w := W) 5 3 .u8 (y : Int) (by kernel_rfl) (by kernel_rfl)
  rw [wrapI (by omega)] at h2
  exact h2
theorem add_1 (i : Nat) (W : World) (y : Int) (h : y ≤ 100000 ∧ -100000 ≤ y) : ((do eqGuard .add 3 (.tmp i) (.const (.int .i64 1)) (.int .i64 y) (.int .i64 1); binOp .add 3 (.int .i64 y) (.int .i64 1)) : Sem Value).run Try.prog W = .ok (.int .i64 (y + 1)) W := by
  have wr : IntKind.i64.wrap (y + 1) = y + 1 := wrapS (by omega)
  clear h
  go_simp
/-- So many writes of device 1. -/
def wsR (k : Nat) : List Wr := (List.range k).map fun i : Nat => wW 1 ((i : Int) + 1)
theorem wsR_len (k : Nat) : (wsR k).length = k := by simp [wsR]
theorem wsR_next (k : Nat) : wsR (k + 1) = wsR k ++ [wW 1 ((k : Int) + 1)] := by simp [wsR, List.range_succ]
theorem wsR_mem {k : Nat} {x : Wr} (h : x ∈ wsR k) : x.dev = 1 ∧ x.seq ≤ (k : Int) := by
  obtain ⟨i, hi, rfl⟩ := List.mem_map.1 h
  have := List.mem_range.1 hi
  exact ⟨rfl, by show (i : Int) + 1 ≤ k; omega⟩
theorem jL_is (k : Nat) : ofL zL (wsR k) = laL 0 (k : Int) 0 0 0 0 0 0 0 0 0 0 := by
  induction k with
  | zero => rfl
  | succ k ih =>
    rw [wsR_next, ofL_snoc, ih, ofS_yes (d := 1) (by decide) rfl]
    show (laL 0 (k : Int) 0 0 0 0 0 0 0 0 0 0).set 1 (max (k : Int) ((k : Int) + 1)) = _
    rw [show max (k : Int) ((k : Int) + 1) = ((k + 1 : Nat) : Int) by omega]
    rfl
theorem ask_j1 (k : Nat) (q : Int) (h : q = (k : Int) + 1) : askI (ofL zL (wsR k)) 1 q = 0 := by
  rw [jL_is, h]
  unfold askI
  rw [show lastI (laL 0 (k : Int) 0 0 0 0 0 0 0 0 0 0) 1 = (k : Int) from rfl, decide_eq_false (by omega), decide_eq_false (by omega)]
  rfl
theorem ask_j6 (k : Nat) (q : Int) (h : q ≤ (k : Int)) : askI (ofL zL (wsR k)) 1 q = 6 := by
  rw [jL_is]
  unfold askI
  rw [show lastI (laL 0 (k : Int) 0 0 0 0 0 0 0 0 0 0) 1 = (k : Int) from rfl, decide_eq_true h]
  rfl
theorem ask_two {l : List Int} (h : gI l 2 = 0) : askI l 2 1 = 0 := by
  unfold askI
  rw [show lastI l 2 = gI l 2 from rfl, h]
  rfl
theorem ask_two2 {l : List Int} (h : gI l 2 = 1) : askI l 2 2 = 0 := by
  unfold askI
  rw [show lastI l 2 = gI l 2 from rfl, h]
  rfl
theorem gI_j2 (k : Nat) : gI (ofL zL (wsR k)) 2 = 0 := by rw [jL_is]; rfl
theorem left_wsR (k : Nat) : (leftL oneL (wsR k)).length = k - 1 := by
  induction k with
  | zero => rfl
  | succ k ih =>
    rw [wsR_next, leftL_snoc, notOld_is (d := 1) (by decide) rfl]
    show (bif decide (gI oneL 1 < (k : Int) + 1) then leftL oneL (wsR k) ++ [wW 1 ((k : Int) + 1)] else leftL oneL (wsR k)).length = k + 1 - 1
    rw [show gI oneL 1 = 1 from rfl]
    by_cases h : (1 : Int) < (k : Int) + 1
    · rw [decide_eq_true h]
      show (leftL oneL (wsR k) ++ [wW 1 ((k : Int) + 1)]).length = _
      rw [List.length_append, ih]
      simp
      omega
    · rw [decide_eq_false h]
      show (leftL oneL (wsR k)).length = _
      rw [ih]
      omega
theorem left_mem {k : Nat} {x : Wr} (h : x ∈ leftL oneL (wsR k)) : x.dev = 1 ∧ x.seq ≤ (k : Int) := wsR_mem (List.mem_filter.1 h).1
theorem gI_l2 (k : Nat) : gI (ofL oneL (leftL oneL (wsR k))) 2 = 0 := by
  rw [gI_ofL (by decide) _ oneL rfl, mxI_other 2 _ _ fun x hx => by rw [(left_mem hx).1]; decide]
  rfl
theorem gI_l3 (k : Nat) : gI (ofL oneL (leftL oneL (wsR k) ++ [wW 2 1])) 2 = 1 := by
  have e : mxI 2 (gI oneL 2) (leftL oneL (wsR k)) = 0 := by
    rw [mxI_other 2 _ _ fun x hx => by rw [(left_mem hx).1]; decide]
    rfl
  rw [gI_ofL (by decide) _ oneL rfl, mxI_app, e]
  rfl

set_option maxRecDepth 100000 in
set_option maxHeartbeats 4000000 in
theorem queueRoom_all (x : UInt8) (w : World) : Calls Try.prog 4 #[.int .u8 (x.toNat : Int)] w fun e w' => e = .returned (.bool true) ∧ Below w.heap.size w w' := by
  have hx8 := x.toNat_lt
  generalize x.toNat = z0 at hx8 ⊢
  go_enter Try.func4, Try.ntmps4
  go_upto_region 1 with fail
  refine wp_region_lit ?_
  refine fl_start ?_
  generalize ha : Act.mk _ _ = a0
  have hn : a0.tmps.size = 95 := by rw [← ha]; kernel_rfl
  have h0 : (fr a0 []).eval (.tmp 0) = .int .u8 (z0 : Int) := by rw [← ha]; kernel_rfl
  refine fl_know hn rfl h0 ?_
  clear h0
  have hm := Nat.mod_lt z0 (show 0 < 30 by decide)
  have r1 := rem_u8c 9 w z0
  have r2 := cv_8i w (y := z0 % 30) (by omega)
  have r3 := add_1 11 w ((z0 % 30 : Nat) : Int) (by omega)
  refine g_mv hn ?_
  refine g_bc hn ?_
  refine g_cv hn ?_
  refine g_bc hn ?_
  refine g_as hn ?_
  refine fl_end ?_
  clear hn
  subst ha
  dsimp only [fr, cnd, Act.put, cond_true]
  simp only [List.setIfInBounds_toArray, List.set_cons_zero, List.set_cons_succ]
  clear r1 r2 r3 hx8
  obtain ⟨k, hk⟩ : ∃ k : Nat, z0 % 30 + 1 = k := ⟨_, rfl⟩
  rw [show ((z0 % 30 : Nat) : Int) + 1 = (k : Int) by omega]
  replace hm : 1 ≤ k ∧ k ≤ 30 := by omega
  clear hk
  go_wp2_with fail
  refine (qNew_any (k : Int) w (by omega) (by omega)).mono ?_
  rintro e w1 ⟨q, rfl, hq, hQ, hB⟩
  go_wp2_with fail
  refine (awake14_any w1).mono ?_
  rintro e w2 ⟨rfl, hB2⟩
  replace hQ := hQ.keep hB2
  replace hB := hB.trans (hB2.mono hB.size)
  clear hB2
  go_upto_region 5 with fail
  refine wp_region_lit ?_
  refine fl_start ?_
  generalize ha : Act.mk _ _ = a0
  have hn : a0.tmps.size = 95 := by rw [← ha]; kernel_rfl
  refine fl_op (v := .agg (liA zL)) hn rfl (by rfl) rfl (fun hk _ => x_bdQ (vs := #[]) (by simp) (bdLa0 w2)) ?_
  refine al_row hn (alLa w2) ?_
  intro z w3 hz hZ1 hB2
  refine g_str hZ1 ?_ (h1 := li_one zL) (hi := by kernel_rfl)
  intro w4 ho hZ
  refine fl_end ?_
  clear hn
  subst ha
  dsimp only [fr, cnd, Act.put, cond_true]
  simp only [List.setIfInBounds_toArray, List.set_cons_zero, List.set_cons_succ]
  have hqz : q < z := by have := hQ.blk.lt; omega
  replace hB2 := hB2.trans (ho.below (by omega))
  replace hQ := hQ.keep hB2
  replace hB := hB.trans (hB2.mono hB.size)
  clear hZ1 hB2 ho
  go_wp2_with fail
  go_loopw [7] (fun u7 wr => ∃ (j : Nat) (A : Option Addr) (n c : Nat), j ≤ k ∧ u7 = .int .i64 ((j + 1 : Nat) : Int) ∧ QuW wr q (k : Int) A n c (wsR j) ∧ Blk wr z (liA zL) 29 ∧ Below w.heap.size w wr) (fun u7 _ => k + 1 - (intOf u7).toNat)
  case atStart => exact ⟨0, none, 0, 0, by omega, rfl, hQ, hZ, hB⟩
  case round =>
    clear hQ hZ hB
    obtain ⟨j, A, n, c, hj, rfl, hQ, hZ, hB⟩ := hrel
    have ld : ∀ W, Blk W z (liA zL) 29 → _ := fun W h => ld_liL h rfl
    have hnl := hQ.len
    rw [wsR_len] at hnl
    by_cases hjk : j < k
    · have j2 : ((j + 1 : Nat) : Int) ≤ (k : Int) := by omega
      go_upto_region 9 with fail
      refine fh_start (S := (fun W => Blk W z (liA zL) 29)) (by kernel_rfl) (hZ) (fun hS => ?_)
      generalize ha : Act.mk _ _ = a0
      have hn : a0.tmps.size = 95 := by rw [← ha]; kernel_rfl
      have h4 : (fr a0 []).eval (.tmp 4) = .pointer (some ⟨q, 0, none⟩) := by rw [← ha]; kernel_rfl
      refine fh_know hn rfl h4 ?_
      clear h4
      have h6 : (fr a0 [(4, true, .pointer (some ⟨q, 0, none⟩))]).eval (.tmp 6) = .pointer (some ⟨z, 0, none⟩) := by rw [← ha]; kernel_rfl
      refine fh_know hn rfl h6 ?_
      clear h6
      have h7 : (fr a0 [(6, true, .pointer (some ⟨z, 0, none⟩)), (4, true, .pointer (some ⟨q, 0, none⟩))]).eval (.tmp 7) = .int .i64 ((j + 1 : Nat) : Int) := by rw [← ha]; kernel_rfl
      refine fh_know hn rfl h7 ?_
      clear h7
      clear hS
      have hZ0 : Blk (World.drew wr) z (liA zL) 29 := hZ
      have hQ0 : QuW (World.drew wr) q (k : Int) A n c (wsR j) := ⟨hQ.blk, hQ.own, hQ.fit⟩
      have hB0 := Below.drew hB
      refine h_mv 0 hn hZ0 ?_
      refine h_ld 1 hn hZ0 ?_
      refine h_mv 2 hn hZ0 ?_
      refine fh_callx 3 (d := 40) (R := fun v w' => v = .agg (wW 1 ((j + 1 : Nat) : Int)).cells ∧ Below (World.drew wr).heap.size (World.drew wr) w') hn rfl (fun hk => call2_is en_spinney_spinneylaw14_w _ _ _ _ _ _ _ _ _ (.int .i64 1) (.int .i64 ((j + 1 : Nat) : Int)) (rfl) (lk_at hk (i := 39) rfl (fun _ => rfl) rfl) rfl) ((w14_any 1 ((j + 1 : Nat) : Int) _).mono fun _ _ ⟨he, hb2⟩ => ⟨_, he, rfl, hb2⟩) ?_ rfl rfl (by kernel_rfl) rfl
      rintro v v1 ⟨rfl, hb1⟩
      have hZ1 := Blk.keep hZ0 hb1
      have hQ1 := QuW.keep hQ0 hb1
      have hB1 := hB0.trans (hb1.mono hB0.size)
      refine ⟨hZ1, ?_⟩
      have hc2 := (takeI_ok (room := (k : Int)) (l := zL) (ws := wsR j) (x := wW 1 ((j + 1 : Nat) : Int)) (ask_j1 j _ (by show ((j + 1 : Nat) : Int) = _; omega)) (by rw [wsR_len]; omega))
      refine fh_callx 4 (d := 41) (R := fun v w' => v = .int .i64 0 ∧ QTook q (k : Int) A n c (wsR j) (wW 1 ((j + 1 : Nat) : Int)) 0 v1 w') hn rfl (fun hk => call3_is en_spinney_queue_Queue_Take _ _ _ _ _ _ _ _ _ _ _ _ _ (lk_at hk (i := 37) rfl (fun _ => rfl) rfl) (lk_at hk (i := 38) rfl (fun _ => rfl) rfl) (lk_at hk (i := 40) rfl (fun _ => rfl) rfl) rfl) ((qTake_any q (k : Int) A n c (wsR j) zL (wW 1 ((j + 1 : Nat) : Int)) v1 hQ1 rfl (ofL_sml zL_sml fun x hx => by have := (wsR_mem hx).2; omega) (wW_fit _ _) (by omega)).mono fun _ _ ⟨he, hb2⟩ => ⟨_, he, by rw [hc2], by rw [← hc2]; exact hb2⟩) ?_ rfl rfl (by kernel_rfl) rfl
      rintro v v2 ⟨rfl, ht2⟩
      obtain ⟨A2, n2, c2, hQ2, hk2, ha2⟩ := ht2.ok rfl
      have hZ2 := hk2.keep hQ1 hZ1 (by omega) lt_ne
      have hB2 := hB1.trans (hk2.below (B := w.heap.size) hq (fun x hx => hQ1.above x hx) hB1.size)
      refine ⟨hZ2, ?_⟩
      refine h_bc 5 hn hZ2 ?_ (hx := fun W _ => er_neq _ _ _ W)
      refine fh_end (by kernel_rfl) ?_
      clear hn
      subst ha
      dsimp only [fr, cnd, Act.put, cond_true]
      simp only [List.setIfInBounds_toArray, List.set_cons_zero, List.set_cons_succ]
      have hQn : QuW v2 q (k : Int) A2 n2 c2 (wsR (j + 1)) := by rw [wsR_next]; exact hQ2
      have hZn := hZ2
      have hBn := hB2
      clear ld
      go_wp2_with fail
      refine ⟨?_, ?_⟩
      · first
        | exact ⟨j + 1, A2, n2, c2, by omega, by go_num, hQn, hZn, hBn⟩
        | repeat apply Exists.intro
          refine ⟨?_, rfl⟩
          exact ⟨j + 1, A2, n2, c2, by omega, by go_num, hQn, hZn, hBn⟩
      · simp [intOf]; omega
    · have e : j = k := by omega
      subst e
      have j2 : ¬ ((j + 1 : Nat) : Int) ≤ (j : Int) := by omega
      have ad : ∀ W, Blk W z (liA zL) 29 → _ := fun W _ => add_1 45 W (j : Int) (by omega)
      go_upto_region 11 with fail
      refine fh_start (S := (fun W => Blk W z (liA zL) 29)) (by kernel_rfl) (hZ) (fun hS => ?_)
      generalize ha : Act.mk _ _ = a0
      have hn : a0.tmps.size = 95 := by rw [← ha]; kernel_rfl
      have h3 : (fr a0 []).eval (.tmp 3) = .int .i64 (j : Int) := by rw [← ha]; kernel_rfl
      refine fh_know hn rfl h3 ?_
      clear h3
      have h4 : (fr a0 [(3, true, .int .i64 (j : Int))]).eval (.tmp 4) = .pointer (some ⟨q, 0, none⟩) := by rw [← ha]; kernel_rfl
      refine fh_know hn rfl h4 ?_
      clear h4
      have h6 : (fr a0 [(4, true, .pointer (some ⟨q, 0, none⟩)), (3, true, .int .i64 (j : Int))]).eval (.tmp 6) = .pointer (some ⟨z, 0, none⟩) := by rw [← ha]; kernel_rfl
      refine fh_know hn rfl h6 ?_
      clear h6
      clear hS
      have hZ0 : Blk (World.drew wr) z (liA zL) 29 := hZ
      have hQ0 : QuW (World.drew wr) q (j : Int) A n c (wsR j) := ⟨hQ.blk, hQ.own, hQ.fit⟩
      have hB0 := Below.drew hB
      refine h_mv 0 hn hZ0 ?_
      refine h_ld 1 hn hZ0 ?_
      refine h_mv 2 hn hZ0 ?_
      refine h_bc 3 hn hZ0 ?_
      refine fh_callx 4 (d := 47) (R := fun v w' => v = .agg (wW 1 ((j : Int) + 1)).cells ∧ Below (World.drew wr).heap.size (World.drew wr) w') hn rfl (fun hk => call2_is en_spinney_spinneylaw14_w _ _ _ _ _ _ _ _ _ (.int .i64 1) (.int .i64 ((j : Int) + 1)) (rfl) (lk_at hk (i := 46) rfl (fun _ => rfl) rfl) rfl) ((w14_any 1 ((j : Int) + 1) _).mono fun _ _ ⟨he, hb2⟩ => ⟨_, he, rfl, hb2⟩) ?_ rfl rfl (by kernel_rfl) rfl
      rintro v v1 ⟨rfl, hb1⟩
      have hZ1 := Blk.keep hZ0 hb1
      have hQ1 := QuW.keep hQ0 hb1
      have hB1 := hB0.trans (hb1.mono hB0.size)
      refine ⟨hZ1, ?_⟩
      have hc2 := (takeI_full (room := (j : Int)) (l := zL) (ws := wsR j) (x := wW 1 ((j : Int) + 1)) (ask_j1 j _ rfl) (by rw [wsR_len]; omega))
      refine fh_callx 5 (d := 48) (R := fun v w' => v = .int .i64 3 ∧ QTook q (j : Int) A n c (wsR j) (wW 1 ((j : Int) + 1)) 3 v1 w') hn rfl (fun hk => call3_is en_spinney_queue_Queue_Take _ _ _ _ _ _ _ _ _ _ _ _ _ (lk_at hk (i := 43) rfl (fun _ => rfl) rfl) (lk_at hk (i := 44) rfl (fun _ => rfl) rfl) (lk_at hk (i := 47) rfl (fun _ => rfl) rfl) rfl) ((qTake_any q (j : Int) A n c (wsR j) zL (wW 1 ((j : Int) + 1)) v1 hQ1 rfl (ofL_sml zL_sml fun x hx => by have := (wsR_mem hx).2; omega) (wW_fit _ _) (by omega)).mono fun _ _ ⟨he, hb2⟩ => ⟨_, he, by rw [hc2], by rw [← hc2]; exact hb2⟩) ?_ rfl rfl (by kernel_rfl) rfl
      rintro v v2 ⟨rfl, ht2⟩
      obtain ⟨hQ2, hb2⟩ := ht2.fail (by decide)
      have hZ2 := Blk.keep hZ1 hb2
      have hB2 := hB1.trans (hb2.mono hB1.size)
      refine ⟨hZ2, ?_⟩
      refine h_bc 6 hn hZ2 ?_ (hx := fun W _ => er_neq _ _ _ W)
      refine h_mv 7 hn hZ2 ?_
      refine h_mv 8 hn hZ2 ?_
      refine h_ld 9 hn hZ2 ?_
      refine fh_callx 10 (d := 53) (R := fun v w' => v = .agg (wW 2 1).cells ∧ Below v2.heap.size v2 w') hn rfl (fun hk => call2_is en_spinney_spinneylaw14_w _ _ _ _ _ _ _ _ _ (.int .i64 2) (.int .i64 1) (rfl) (rfl) rfl) ((w14_any 2 1 _).mono fun _ _ ⟨he, hb2⟩ => ⟨_, he, rfl, hb2⟩) ?_ rfl rfl (by kernel_rfl) rfl
      rintro v v3 ⟨rfl, hb3⟩
      have hZ3 := Blk.keep hZ2 hb3
      have hQ3 := QuW.keep hQ2 hb3
      have hB3 := hB2.trans (hb3.mono hB2.size)
      refine ⟨hZ3, ?_⟩
      have hc4 := (takeI_full (room := (j : Int)) (l := zL) (ws := wsR j) (x := wW 2 1) (ask_two (gI_j2 j)) (by rw [wsR_len]; omega))
      refine fh_callx 11 (d := 54) (R := fun v w' => v = .int .i64 3 ∧ QTook q (j : Int) A n c (wsR j) (wW 2 1) 3 v3 w') hn rfl (fun hk => call3_is en_spinney_queue_Queue_Take _ _ _ _ _ _ _ _ _ _ _ _ _ (lk_at hk (i := 51) rfl (fun _ => rfl) rfl) (lk_at hk (i := 52) rfl (fun _ => rfl) rfl) (lk_at hk (i := 53) rfl (fun _ => rfl) rfl) rfl) ((qTake_any q (j : Int) A n c (wsR j) zL (wW 2 1) v3 hQ3 rfl (ofL_sml zL_sml fun x hx => by have := (wsR_mem hx).2; omega) (wW_fit _ _) (by omega)).mono fun _ _ ⟨he, hb2⟩ => ⟨_, he, by rw [hc4], by rw [← hc4]; exact hb2⟩) ?_ rfl rfl (by kernel_rfl) rfl
      rintro v v4 ⟨rfl, ht4⟩
      obtain ⟨hQ4, hb4⟩ := ht4.fail (by decide)
      have hZ4 := Blk.keep hZ3 hb4
      have hB4 := hB3.trans (hb4.mono hB3.size)
      refine ⟨hZ4, ?_⟩
      refine h_bc 12 hn hZ4 ?_ (hx := fun W _ => er_neq _ _ _ W)
      refine h_op 13 hn hZ4 (fun W _ hk => x_or (fun _ => rfl) (lk_at hk (i := 50) rfl (fun _ => rfl) rfl) (fun _ => lk_at hk (i := 55) rfl (fun _ => rfl) rfl)) ?_
      refine h_mv 14 hn hZ4 ?_
      refine h_mv 15 hn hZ4 ?_
      refine h_ld 16 hn hZ4 ?_
      refine fh_callx 17 (d := 60) (R := fun v w' => v = .agg (wW 1 1).cells ∧ Below v4.heap.size v4 w') hn rfl (fun hk => call2_is en_spinney_spinneylaw14_w _ _ _ _ _ _ _ _ _ (.int .i64 1) (.int .i64 1) (rfl) (rfl) rfl) ((w14_any 1 1 _).mono fun _ _ ⟨he, hb2⟩ => ⟨_, he, rfl, hb2⟩) ?_ rfl rfl (by kernel_rfl) rfl
      rintro v v5 ⟨rfl, hb5⟩
      have hZ5 := Blk.keep hZ4 hb5
      have hQ5 := QuW.keep hQ4 hb5
      have hB5 := hB4.trans (hb5.mono hB4.size)
      refine ⟨hZ5, ?_⟩
      have hc6 := (takeI_of (room := (j : Int)) (l := zL) (ws := wsR j) (x := wW 1 1) (a := 6) (ask_j6 j 1 (by omega)) (by decide))
      refine fh_callx 18 (d := 61) (R := fun v w' => v = .int .i64 6 ∧ QTook q (j : Int) A n c (wsR j) (wW 1 1) 6 v5 w') hn rfl (fun hk => call3_is en_spinney_queue_Queue_Take _ _ _ _ _ _ _ _ _ _ _ _ _ (lk_at hk (i := 58) rfl (fun _ => rfl) rfl) (lk_at hk (i := 59) rfl (fun _ => rfl) rfl) (lk_at hk (i := 60) rfl (fun _ => rfl) rfl) rfl) ((qTake_any q (j : Int) A n c (wsR j) zL (wW 1 1) v5 hQ5 rfl (ofL_sml zL_sml fun x hx => by have := (wsR_mem hx).2; omega) (wW_fit _ _) (by omega)).mono fun _ _ ⟨he, hb2⟩ => ⟨_, he, by rw [hc6], by rw [← hc6]; exact hb2⟩) ?_ rfl rfl (by kernel_rfl) rfl
      rintro v v6 ⟨rfl, ht6⟩
      obtain ⟨hQ6, hb6⟩ := ht6.fail (by decide)
      have hZ6 := Blk.keep hZ5 hb6
      have hB6 := hB5.trans (hb6.mono hB5.size)
      refine ⟨hZ6, ?_⟩
      refine h_bc 19 hn hZ6 ?_ (hx := fun W _ => er_neq _ _ _ W)
      refine h_op 20 hn hZ6 (fun W _ hk => x_or (fun _ => rfl) (lk_at hk (i := 57) rfl (fun _ => rfl) rfl) (fun _ => lk_at hk (i := 62) rfl (fun _ => rfl) rfl)) ?_
      refine h_mv 21 hn hZ6 ?_
      refine h_mv 22 hn hZ6 ?_
      refine h_mv 24 hn hZ6 ?_
      have hv7 := (show (n : Int) = (j : Int) by omega)
      refine fh_callx 23 (d := 66) (R := fun v w' => v = .int .i64 (j : Int) ∧ w' = v6) hn rfl (fun hk => call1_is en_spinney_queue_Queue_Len _ _ _ _ _ _ _ _ _ (lk_at hk (i := 65) rfl (fun _ => rfl) rfl) rfl) ((qLen_any q (j : Int) A n c (wsR j) v6 hQ6).mono fun _ _ ⟨he, hb2⟩ => ⟨_, he, by rw [hv7], hb2⟩) ?_ rfl rfl (by kernel_rfl) rfl
      rintro v v7 ⟨rfl, rfl⟩
      refine ⟨hZ6, ?_⟩
      refine h_neq2 25 hn hZ6 ?_
      refine h_op 26 hn hZ6 (fun W _ hk => x_or (fun _ => rfl) (lk_at hk (i := 64) rfl (fun _ => rfl) rfl) (fun _ => lk_at hk (i := 68) rfl (fun _ => rfl) rfl)) ?_
      refine fh_end (by kernel_rfl) ?_
      clear hn
      subst ha
      dsimp only [fr, cnd, Act.put, cond_true]
      simp only [List.setIfInBounds_toArray, List.set_cons_zero, List.set_cons_succ]
      have hQ9 := hQ6
      have hB9 := hB6
      clear ld ad
      simp only [bne_self_eq_false]
      go_upto_region 13 with fail
      refine wp_region_lit ?_
      refine fl_start ?_
      generalize ha : Act.mk _ _ = a0
      have hn : a0.tmps.size = 95 := by rw [← ha]; kernel_rfl
      refine fl_op (v := .agg (liA oneL)) hn rfl (by rfl) rfl (fun hk _ => x_bdQ (vs := #[(1, .int .i64 1)]) (by first | rfl | (simp only [List.map_toArray, List.map_cons, List.map_nil]; rfl)) (bdLa1 _)) ?_
      refine al_row hn (alLa _) ?_
      intro y w6 hy hY1 hB2
      refine g_str hY1 ?_ (h1 := li_one oneL) (hi := by kernel_rfl)
      intro w7 ho hY
      refine fl_end ?_
      clear hn
      subst ha
      dsimp only [fr, cnd, Act.put, cond_true]
      simp only [List.setIfInBounds_toArray, List.set_cons_zero, List.set_cons_succ]
      have hqy : q < y := by have := hQ9.blk.lt; omega
      replace hB2 := hB2.trans (ho.below (by omega))
      have hQ := hQ9.keep hB2
      have hB := hB9.trans (hB2.mono hB9.size)
      have hZ := hY
      have ld : ∀ W, Blk W y (liA oneL) 29 → _ := fun W h => ld_liL h rfl
      go_upto_region 14 with fail
      refine fh_start (S := (fun W => Blk W y (liA oneL) 29)) (by kernel_rfl) (hZ) (fun hS => ?_)
      generalize ha : Act.mk _ _ = a0
      have hn : a0.tmps.size = 95 := by rw [← ha]; kernel_rfl
      have h3 : (fr a0 []).eval (.tmp 3) = .int .i64 (j : Int) := by rw [← ha]; kernel_rfl
      refine fh_know hn rfl h3 ?_
      clear h3
      have h4 : (fr a0 [(3, true, .int .i64 (j : Int))]).eval (.tmp 4) = .pointer (some ⟨q, 0, none⟩) := by rw [← ha]; kernel_rfl
      refine fh_know hn rfl h4 ?_
      clear h4
      have h8 : (fr a0 [(4, true, .pointer (some ⟨q, 0, none⟩)), (3, true, .int .i64 (j : Int))]).eval (.tmp 8) = .pointer (some ⟨y, 0, none⟩) := by rw [← ha]; kernel_rfl
      refine fh_know hn rfl h8 ?_
      clear h8
      clear hS
      have hZ0 : Blk (World.drew w7) y (liA oneL) 29 := hZ
      have hQ0 : QuW (World.drew w7) q (j : Int) A n c (wsR j) := ⟨hQ.blk, hQ.own, hQ.fit⟩
      have hB0 := Below.drew hB
      refine h_mv 0 hn hZ0 ?_
      refine h_ld 1 hn hZ0 ?_
      have hv1 := (show ((wsR j).length : Int) - ((leftL oneL (wsR j)).length : Int) = 1 by rw [wsR_len, left_wsR]; omega)
      refine fh_callx 2 (d := 73) (R := fun v w' => v = .int .i64 1 ∧ ∃ A' n' c', QuW w' q (j : Int) A' n' c' (leftL oneL (wsR j)) ∧ QuK q A (World.drew w7) w' ∧ ∀ a, A' = some a → (World.drew w7).heap.size ≤ a.block) hn rfl (fun hk => call2_is en_spinney_queue_Queue_Settle _ _ _ _ _ _ _ _ _ _ _ (lk_at hk (i := 71) rfl (fun _ => rfl) rfl) (lk_at hk (i := 72) rfl (fun _ => rfl) rfl) rfl) ((qSettle_any q (j : Int) A n c (wsR j) oneL (World.drew w7) hQ0 oneL_sml (by omega)).mono fun _ _ ⟨he, hb2⟩ => ⟨_, he, by rw [hv1], hb2⟩) ?_ rfl rfl (by kernel_rfl) rfl
      rintro v v1 ⟨rfl, A1, n1, c1, hQ1, hk1, ha1⟩
      have hZ1 := hk1.keep hQ0 hZ0 (by omega) lt_ne
      have hB1 := hB0.trans (hk1.below (B := w.heap.size) hq (fun x hx => hQ0.above x hx) hB0.size)
      refine ⟨hZ1, ?_⟩
      refine h_eql 3 hn hZ1 ?_
      refine h_mv 4 hn hZ1 ?_
      refine h_mv 5 hn hZ1 ?_
      refine h_ld 6 hn hZ1 ?_
      refine fh_callx 7 (d := 78) (R := fun v w' => v = .agg (wW 2 1).cells ∧ Below v1.heap.size v1 w') hn rfl (fun hk => call2_is en_spinney_spinneylaw14_w _ _ _ _ _ _ _ _ _ (.int .i64 2) (.int .i64 1) (rfl) (rfl) rfl) ((w14_any 2 1 _).mono fun _ _ ⟨he, hb2⟩ => ⟨_, he, rfl, hb2⟩) ?_ rfl rfl (by kernel_rfl) rfl
      rintro v v2 ⟨rfl, hb2⟩
      have hZ2 := Blk.keep hZ1 hb2
      have hQ2 := QuW.keep hQ1 hb2
      have hB2 := hB1.trans (hb2.mono hB1.size)
      refine ⟨hZ2, ?_⟩
      have hn2 : n1 = j - 1 := by have h := hQ2.len; rw [left_wsR] at h; omega
      have hc3 := (takeI_ok (room := (j : Int)) (l := oneL) (ws := leftL oneL (wsR j)) (x := wW 2 1) (ask_two (gI_l2 j)) (by rw [left_wsR]; omega))
      refine fh_callx 8 (d := 79) (R := fun v w' => v = .int .i64 0 ∧ QTook q (j : Int) A1 n1 c1 (leftL oneL (wsR j)) (wW 2 1) 0 v2 w') hn rfl (fun hk => call3_is en_spinney_queue_Queue_Take _ _ _ _ _ _ _ _ _ _ _ _ _ (lk_at hk (i := 76) rfl (fun _ => rfl) rfl) (lk_at hk (i := 77) rfl (fun _ => rfl) rfl) (lk_at hk (i := 78) rfl (fun _ => rfl) rfl) rfl) ((qTake_any q (j : Int) A1 n1 c1 (leftL oneL (wsR j)) oneL (wW 2 1) v2 hQ2 rfl (ofL_sml oneL_sml fun x hx => by have := (left_mem hx).2; omega) (wW_fit _ _) (by omega)).mono fun _ _ ⟨he, hb2⟩ => ⟨_, he, by rw [hc3], by rw [← hc3]; exact hb2⟩) ?_ rfl rfl (by kernel_rfl) rfl
      rintro v v3 ⟨rfl, ht3⟩
      obtain ⟨A3, n3, c3, hQ3, hk3, ha3⟩ := ht3.ok rfl
      have hZ3 := hk3.keep hQ2 hZ2 (by omega) lt_ne
      have hB3 := hB2.trans (hk3.below (B := w.heap.size) hq (fun x hx => hQ2.above x hx) hB2.size)
      refine ⟨hZ3, ?_⟩
      have hn3 : n3 = j := by have h := hQ3.len; rw [List.length_append, left_wsR] at h; simp at h; omega
      refine h_bc 9 hn hZ3 ?_ (hx := fun W _ => er_eql _ _ _ W)
      refine h_op 10 hn hZ3 (fun W _ hk => x_an (fun _ => rfl) (lk_at hk (i := 75) rfl (fun _ => rfl) rfl) (fun _ => lk_at hk (i := 80) rfl (fun _ => rfl) rfl)) ?_
      refine h_mv 11 hn hZ3 ?_
      refine h_mv 12 hn hZ3 ?_
      refine h_mv 14 hn hZ3 ?_
      have hv4 := (show (n3 : Int) = (j : Int) by omega)
      refine fh_callx 13 (d := 84) (R := fun v w' => v = .int .i64 (j : Int) ∧ w' = v3) hn rfl (fun hk => call1_is en_spinney_queue_Queue_Len _ _ _ _ _ _ _ _ _ (lk_at hk (i := 83) rfl (fun _ => rfl) rfl) rfl) ((qLen_any q (j : Int) A3 n3 c3 ((leftL oneL (wsR j)) ++ [wW 2 1]) v3 hQ3).mono fun _ _ ⟨he, hb2⟩ => ⟨_, he, by rw [hv4], hb2⟩) ?_ rfl rfl (by kernel_rfl) rfl
      rintro v v4 ⟨rfl, rfl⟩
      refine ⟨hZ3, ?_⟩
      refine h_op 15 hn hZ3 (fun W _ hk => x_bn (lk_at hk (i := 84) rfl (fun _ => rfl) rfl) (lk_at hk (i := 85) rfl (fun _ => rfl) rfl) (in_eq 84 85 _ W)) ?_
      refine h_op 16 hn hZ3 (fun W _ hk => x_an (fun _ => rfl) (lk_at hk (i := 82) rfl (fun _ => rfl) rfl) (fun _ => lk_at hk (i := 86) rfl (fun _ => rfl) rfl)) ?_
      refine h_mv 17 hn hZ3 ?_
      refine h_mv 18 hn hZ3 ?_
      refine h_ld 19 hn hZ3 ?_
      refine fh_callx 20 (d := 91) (R := fun v w' => v = .agg (wW 2 2).cells ∧ Below v4.heap.size v4 w') hn rfl (fun hk => call2_is en_spinney_spinneylaw14_w _ _ _ _ _ _ _ _ _ (.int .i64 2) (.int .i64 2) (rfl) (rfl) rfl) ((w14_any 2 2 _).mono fun _ _ ⟨he, hb2⟩ => ⟨_, he, rfl, hb2⟩) ?_ rfl rfl (by kernel_rfl) rfl
      rintro v v5 ⟨rfl, hb5⟩
      have hZ5 := Blk.keep hZ3 hb5
      have hQ5 := QuW.keep hQ3 hb5
      have hB5 := hB3.trans (hb5.mono hB3.size)
      refine ⟨hZ5, ?_⟩
      have hc6 := (takeI_full (room := (j : Int)) (l := oneL) (ws := leftL oneL (wsR j) ++ [wW 2 1]) (x := wW 2 2) (ask_two2 (gI_l3 j)) (by rw [List.length_append, left_wsR]; simp; omega))
      refine fh_callx 21 (d := 92) (R := fun v w' => v = .int .i64 3 ∧ QTook q (j : Int) A3 n3 c3 ((leftL oneL (wsR j)) ++ [wW 2 1]) (wW 2 2) 3 v5 w') hn rfl (fun hk => call3_is en_spinney_queue_Queue_Take _ _ _ _ _ _ _ _ _ _ _ _ _ (lk_at hk (i := 89) rfl (fun _ => rfl) rfl) (lk_at hk (i := 90) rfl (fun _ => rfl) rfl) (lk_at hk (i := 91) rfl (fun _ => rfl) rfl) rfl) ((qTake_any q (j : Int) A3 n3 c3 ((leftL oneL (wsR j)) ++ [wW 2 1]) oneL (wW 2 2) v5 hQ5 rfl (ofL_sml oneL_sml fun x hx => by
        rcases List.mem_append.1 hx with h | h
        · have := (left_mem h).2; omega
        · rw [show x = wW 2 1 by simpa using h]; decide) (wW_fit _ _) (by omega)).mono fun _ _ ⟨he, hb2⟩ => ⟨_, he, by rw [hc6], by rw [← hc6]; exact hb2⟩) ?_ rfl rfl (by kernel_rfl) rfl
      rintro v v6 ⟨rfl, ht6⟩
      obtain ⟨hQ6, hb6⟩ := ht6.fail (by decide)
      have hZ6 := Blk.keep hZ5 hb6
      have hB6 := hB5.trans (hb6.mono hB5.size)
      refine ⟨hZ6, ?_⟩
      refine h_bc 22 hn hZ6 ?_ (hx := fun W _ => er_eql _ _ _ W)
      refine h_op 23 hn hZ6 (fun W _ hk => x_an (fun _ => rfl) (lk_at hk (i := 88) rfl (fun _ => rfl) rfl) (fun _ => lk_at hk (i := 93) rfl (fun _ => rfl) rfl)) ?_
      refine h_as 24 hn hZ6 ?_
      refine fh_end (by kernel_rfl) ?_
      clear hn
      subst ha
      dsimp only [fr, cnd, Act.put, cond_true]
      simp only [List.setIfInBounds_toArray, List.set_cons_zero, List.set_cons_succ]
      have hBn := hB6
      clear ld
      simp only [beq_self_eq_true]
      go_wp2_with fail
      go_ret
      exact ⟨rfl, hBn⟩
end Go.Proofs.Ytkfhkfddhijkcaa
