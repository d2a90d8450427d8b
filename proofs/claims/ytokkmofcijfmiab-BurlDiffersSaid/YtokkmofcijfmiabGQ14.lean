/-
  WHAT IS PROVED: rows of texts in walks: one text in a row, append of texts to a row of the call's own, by any slice. Over any program that bears the types named. · slices.Index and slices.Contains of cells; package burl's unlike: the keys of the cells that others lack. Conditions: those typed in each theorem.
-/
import Derived.Test.YtokkmofcijfmiabGQ6
import Derived.Test.YtokkmofcijfmiabGQ13
import Derived.Test.YtokkmofcijfmiabGQ12
import Derived.Test.YtokkmofcijfmiabGQ10
import Derived.Test.YtokkmofcijfmiabBcB
import Derived.Test.YtokkmofcijfmiabBuG
namespace Go.Proofs.Ytokkmofcijfmiab
open Go.RowKit

theorem stEl_info : ElI 9 (.string ⟨#[]⟩) 1 16 := by unfold ElI; kernel_rfl
theorem bsSt (x : ByteArray) (w : World) : (Instr.buildSlice 24 1 #[(0, .string x)]).run Try.prog w = .ok (.slice (some ⟨w.heap.size, 0, none⟩) 1 1) (w.alloc (.cells #[.string x] 9)) := by kernel_rfl
theorem rdS_one {W : World} {g : Nat} {x : ByteArray} {t : TypeId} (h : Blk W g #[.string x] t) : RdS W.heap.size W (some ⟨g, 0, none⟩) [x] := by
  intro k y hy
  match k, hy with
  | 0, hy =>
    have e : x = y := by simpa using hy
    subst e
    refine ⟨_, rfl, h.lt, ?_⟩
    have := h.cell 0
    simpa [Addr.add] using this
section
variable {l : List Oper} {Q : Exit → Act → World → Prop} {rest : List Oper} {a0 : Act} {L : List (Nat × Bool × Value)} {w : World}
theorem g_apS {i j d nn base B n c m dd : Nat} {A A2 : Option Addr} {ks xs : List ByteArray} {ty : TypeId} {p : String} {af : Array Edge} (hn : a0.tmps.size = nn) (hown : OwnS base w A n c ks) (hr : RdS B w A2 xs) (hm : xs.length = m) (hsz : n + m ≤ 1099511627776) (hbase : base ≤ w.heap.size)
    (h : ∀ A' c' w2, OwnS base w2 A' (n + m) c' (ks ++ xs) → Below base w w2 → w.grownBy w2 (A.map (·.block)) → FL Try.prog l Q rest a0 ((d, true, .slice A' (n + m) c') :: L) w2)
    (h1 : lk L i = some (true, .slice A n c) := by rfl) (h2 : lk L j = some (true, .slice A2 m dd) := by rfl) (hd : Nat.blt d nn = true := by rfl) : FL Try.prog l Q (⟨some d, .call { callee := .builtin .append, args := #[.tmp i, .tmp j], argTypes := #[24, 24] }, ty, p, af, none⟩ :: rest) a0 L w := by
  obtain ⟨i0, hi0, hz0, hz1, hz2⟩ := info_parts str_info
  obtain ⟨A', c', w', hrun, hO, hb, hg⟩ := run_apS (P := Try.prog) (ty := ty) (d := dd) w Try.underlying24 Try.underlying24 hi0 hz0 hz1 hz2 hown hr hm hsz hbase
  exact g_w hn (fun hk => x_ap (lk_at hk h1 (fun _ => rfl) rfl) (lk_at hk h2 (fun _ => rfl) rfl) hrun) (h A' c' w' hO hb hg) rfl hd rfl
end
theorem six (W : World) (ad : Addr) (n c k : Nat) (h : k < n) : (Instr.indexAt 24 (.slice (some ad) n c) (.int .i64 (k : Int))).run Try.prog W = .ok (.pointer (some (ad.add k))) W := by
  have i1 : (0 : Int) ≤ (k : Int) := by omega
  have i2 : (k : Int) < (n : Int) := by omega
  go_simp
end Go.Proofs.Ytokkmofcijfmiab

namespace Go.Proofs.Ytokkmofcijfmiab
open Go.RowKit

theorem en_slices_Index_spinney_api_Cell_spinney_api_Cell : ∀ args w, (callFunc 56 args).run Try.prog w = .ok (.enter 56 args) w := enters_of Try.func56 (by kernel_rfl) rfl
theorem en_slices_Contains_spinney_api_Cell_spinney_api_Cell : ∀ args w, (callFunc 42 args).run Try.prog w = .ok (.enter 42 args) w := enters_of Try.func42 (by kernel_rfl) rfl
theorem en_spinney_burl_unlike : ∀ args w, (callFunc 24 args).run Try.prog w = .ok (.enter 24 args) w := enters_of Try.func24 (by kernel_rfl) rfl

theorem cl_eqY (i j : Nat) (a : Cl) (W : World) : ((do eqGuard .eql 54 (.tmp i) (.tmp j) (.agg a.cells) (.agg a.cells); binOp .eql 54 (.agg a.cells) (.agg a.cells)) : Sem Value).run Try.prog W = .ok (.bool true) W := by
  obtain ⟨ky, k, x, s⟩ := a
  go_simp
theorem cl_eqN (i j : Nat) (a b : Cl) (h : a ≠ b) (W : World) : ((do eqGuard .eql 54 (.tmp i) (.tmp j) (.agg a.cells) (.agg b.cells); binOp .eql 54 (.agg a.cells) (.agg b.cells)) : Sem Value).run Try.prog W = .ok (.bool false) W := by
  obtain ⟨ky, k, x, s⟩ := a
  obtain ⟨ky2, k2, x2, s2⟩ := b
  by_cases h1 : ky = ky2
  · subst h1
    by_cases h2 : k = k2
    · subst h2
      by_cases h3 : x = x2
      · subst h3
        have h4 : s.toList ≠ s2.toList := by
          rw [ByteArray.toList_eq, ByteArray.toList_eq]
          intro e
          exact h (by rw [byt_ext e])
        go_simp
      · have h3' : (x == x2) = false := by simpa using h3
        go_simp
    · have h2' : (k == k2) = false := by simpa using h2
      go_simp
  · have h4 : ky.toList ≠ ky2.toList := by
      rw [ByteArray.toList_eq, ByteArray.toList_eq]
      exact fun e => h1 (byt_ext e)
    go_simp
/-- What Index answers. -/
def IdxP (l : List Cl) (x : Cl) (w : World) (e : Ending) (w' : World) : Prop := (∃ m : Int, e = .returned (.int .i64 m) ∧ Hid ((x ∈ l → 0 ≤ m) ∧ (x ∉ l → m = -1))) ∧ Below w.heap.size w w'
set_option maxRecDepth 100000 in
set_option maxHeartbeats 4000000 in
theorem idxCl_any (A : Option Addr) (n c : Nat) (l : List Cl) (x : Cl) (w : World) (hn : l.length = n) (hr : RdX 4 w.heap.size w A (l.map Cl.cells)) (hm : n ≤ 1000000) : Calls Try.prog 56 #[.slice A n c, .agg x.cells] w (IdxP l x w) := by
  have HN := Lib.hid hn
  have HR := Lib.hid (fun W (h : Below w.heap.size w W) => hr.keep (W' := W) h (Nat.le_refl _))
  clear hn hr
  have hX0 := blk_new w x.cells 54
  have hB := b0 w (.cells x.cells 54)
  have hzz : (w.alloc (.cells x.cells 54)).heap.size = w.heap.size + 1 := by simp
  go_enter Try.func56, Try.ntmps56
  go_upto_region 1 with fail
  generalize (w.alloc (.cells x.cells 54)) = W0 at hX0 hB hzz HR ⊢
  generalize hb : w.heap.size = b at hX0 hB hzz HR ⊢
  go_wp2_with fail
  go_loopw [5, 8] (fun _ i wr => ∃ (k : Nat), k ≤ n ∧ i = .int .i64 k ∧ Hid (x ∉ l.take k) ∧ Blk wr b x.cells 54 ∧ Below b w wr) (fun _ i _ => n - (intOf i).toNat)
  case atStart => exact ⟨0, Nat.zero_le _, rfl, Lib.hid (by simp), hX0, hB⟩
  case round =>
    clear hX0 hB
    obtain ⟨k, hk, rfl, hI, hX, hB⟩ := hrel
    by_cases hlt : k < n
    · obtain ⟨y, hy⟩ : ∃ y, l[k]? = some y := ⟨_, List.getElem?_eq_getElem (show k < l.length by have := HN.out; omega)⟩
      have hcc : ∃ ad, A = some ad ∧ ∀ W, Below b w W → ∀ j v, y.cells[j]? = some v → W.cell? (ad.add (k * 4 + j)) = some v := by
        obtain ⟨ad, e, _, _⟩ := HR.out wr hB k y.cells (by rw [List.getElem?_map, hy]; rfl)
        refine ⟨ad, e, fun W hW => ?_⟩
        obtain ⟨ad2, e2, _, h2⟩ := HR.out W hW k y.cells (by rw [List.getElem?_map, hy]; rfl)
        rw [e] at e2
        injection e2 with e2
        rw [e2]
        exact h2
      obtain ⟨ad, rfl, hcW⟩ := hcc
      have i2 : (k : Int) < (n : Int) := by omega
      have f1 : ∀ W, (fun W => Blk W b x.cells 54 ∧ Below b w W) W → _ := fun W h => cld_blk h.1
      have f2 : ∀ W, (fun W => Blk W b x.cells 54 ∧ Below b w W) W → _ := fun W _ => cix W ad n c k hlt
      have f3 : ∀ W, (fun W => Blk W b x.cells 54 ∧ Below b w W) W → _ := fun W h => cld (hcW W h.2)
      by_cases he : x = y
      · subst he
        have hin : x ∈ l := List.mem_of_getElem? hy
        go_upto_region 4 with fail
        refine fc_start (S := (fun W => Blk W b x.cells 54 ∧ Below b w W)) (by kernel_rfl) (⟨hX, hB.drew⟩) ?_
        generalize ha : Act.mk _ _ = a0
        have hn : a0.tmps.size = 19 := by rw [← ha]; kernel_rfl
        have h0 : (fr a0 []).eval (.tmp 0) = .slice (some ad) n c := by rw [← ha]; kernel_rfl
        refine fc_know hn rfl h0 ?_
        clear h0
        have h3 : (fr a0 [(0, true, .slice (some ad) n c)]).eval (.tmp 3) = .pointer (some ⟨b, 0, none⟩) := by rw [← ha]; kernel_rfl
        refine fc_know hn rfl h3 ?_
        clear h3
        have h5 : (fr a0 [(3, true, .pointer (some ⟨b, 0, none⟩)), (0, true, .slice (some ad) n c)]).eval (.tmp 5) = .int .i64 (k : Int) := by rw [← ha]; kernel_rfl
        refine fc_know hn rfl h5 ?_
        clear h5
        refine c_ld 0 hn ?_
        refine c_mv 1 hn ?_
        refine c_mv 2 hn ?_
        refine c_ix 3 hn ?_
        refine c_ld 4 hn ?_
        refine c_bn 5 hn ?_ (v := .bool true) (hx := fun W _ => cl_eqY _ _ x W)
        refine fc_end (fun w2 hS => ?_)
        clear hn f1 f2 f3
        subst ha
        dsimp only [fr, cnd, Act.put, cond_true]
        simp only [List.setIfInBounds_toArray, List.set_cons_zero, List.set_cons_succ]
        go_wp2_with fail
        go_ret
        refine ⟨⟨(k : Int), rfl, Lib.hid ⟨fun _ => by omega, fun h => absurd hin h⟩⟩, ?_⟩
        first | exact hS.2 | (rw [hb]; exact hS.2)
      · have hI2 : Hid (x ∉ l.take (k + 1)) := by
          show _ ∉ _
          rw [List.take_add_one, hy]
          intro h
          rcases List.mem_append.1 h with h | h
          · exact hI.out h
          · simp at h
            exact he h
        go_upto_region 4 with fail
        refine fc_start (S := (fun W => Blk W b x.cells 54 ∧ Below b w W)) (by kernel_rfl) (⟨hX, hB.drew⟩) ?_
        generalize ha : Act.mk _ _ = a0
        have hn : a0.tmps.size = 19 := by rw [← ha]; kernel_rfl
        have h0 : (fr a0 []).eval (.tmp 0) = .slice (some ad) n c := by rw [← ha]; kernel_rfl
        refine fc_know hn rfl h0 ?_
        clear h0
        have h3 : (fr a0 [(0, true, .slice (some ad) n c)]).eval (.tmp 3) = .pointer (some ⟨b, 0, none⟩) := by rw [← ha]; kernel_rfl
        refine fc_know hn rfl h3 ?_
        clear h3
        have h5 : (fr a0 [(3, true, .pointer (some ⟨b, 0, none⟩)), (0, true, .slice (some ad) n c)]).eval (.tmp 5) = .int .i64 (k : Int) := by rw [← ha]; kernel_rfl
        refine fc_know hn rfl h5 ?_
        clear h5
        refine c_ld 0 hn ?_
        refine c_mv 1 hn ?_
        refine c_mv 2 hn ?_
        refine c_ix 3 hn ?_
        refine c_ld 4 hn ?_
        refine c_bn 5 hn ?_ (v := .bool false) (hx := fun W _ => cl_eqN _ _ x y he W)
        refine fc_end (fun w2 hS => ?_)
        clear hn f1 f2 f3
        subst ha
        dsimp only [fr, cnd, Act.put, cond_true]
        simp only [List.setIfInBounds_toArray, List.set_cons_zero, List.set_cons_succ]
        obtain ⟨hX2, hB2⟩ := hS
        clear hX hB hI
        go_wp2_with fail
        refine ⟨?_, ?_⟩
        · first
          | exact ⟨k + 1, by omega, by go_num, hI2, hX2, hB2⟩
          | repeat apply Exists.intro
            refine ⟨?_, rfl⟩
            exact ⟨k + 1, by omega, by go_num, hI2, hX2, hB2⟩
        · simp [intOf]; omega
    · have i2 : ¬ (k : Int) < (n : Int) := by omega
      have hI2 := hI.out
      rw [List.take_of_length_le (by have := HN.out; omega)] at hI2
      go_wp2_with fail
      go_ret
      refine ⟨⟨-1, rfl, Lib.hid ⟨fun h => absurd h hI2, fun _ => rfl⟩⟩, ?_⟩
      first | exact hB | (rw [hb]; exact hB)
open Classical in
/-- Is a cell among others? -/
noncomputable def hasC (l : List Cl) (x : Cl) : Bool := decide (x ∈ l)
set_option maxRecDepth 100000 in
set_option maxHeartbeats 4000000 in
theorem conCl_any (A : Option Addr) (n c : Nat) (l : List Cl) (x : Cl) (w : World) (hn : l.length = n) (hr : RdX 4 w.heap.size w A (l.map Cl.cells)) (hm : n ≤ 1000000) : Calls Try.prog 42 #[.slice A n c, .agg x.cells] w fun e w' => e = .returned (.bool (hasC l x)) ∧ Below w.heap.size w w' := by
  have hX0 := blk_new w x.cells 54
  have hB := b0 w (.cells x.cells 54)
  have hzz : (w.alloc (.cells x.cells 54)).heap.size = w.heap.size + 1 := by simp
  go_enter Try.func42, Try.ntmps42
  go_upto_region 1 with fail
  generalize (w.alloc (.cells x.cells 54)) = W0 at hX0 hB hzz hr ⊢
  generalize hb : w.heap.size = b at hX0 hB hzz hr ⊢
  have l1 := cld_blk hX0
  have hr0 : RdX 4 W0.heap.size W0 A (l.map Cl.cells) := (hr.keep hB (by omega)).more (by have := hB.size; omega)
  have cI := idxCl_any A n c l x W0 hn hr0 hm
  refine wp_region_lit ?_
  refine fl_start ?_
  generalize ha : Act.mk _ _ = a0
  have hn2 : a0.tmps.size = 9 := by rw [← ha]; kernel_rfl
  have h0 : (fr a0 []).eval (.tmp 0) = .slice A n c := by rw [← ha]; kernel_rfl
  refine fl_know hn2 rfl h0 ?_
  clear h0
  have h3 : (fr a0 [(0, true, .slice A n c)]).eval (.tmp 3) = .pointer (some ⟨b, 0, none⟩) := by rw [← ha]; kernel_rfl
  refine fl_know hn2 rfl h3 ?_
  clear h3
  refine g_mv hn2 ?_
  refine g_ld hn2 ?_
  refine g_c2x en_slices_Index_spinney_api_Cell_spinney_api_Cell hn2 (R := fun v w2 => ∃ m : Int, v = .int .i64 m ∧ ((x ∈ l → 0 ≤ m) ∧ (x ∉ l → m = -1)) ∧ Below W0.heap.size W0 w2) (cI.mono fun _ _ ⟨⟨m, he, h1⟩, hb2⟩ => ⟨_, he, m, rfl, h1.out, hb2⟩) ?_
  rintro v w2 ⟨m, rfl, hmm, hb2⟩
  refine g_geq hn2 ?_
  refine g_as hn2 ?_
  refine fl_end ?_
  clear hn2 l1 cI
  subst ha
  dsimp only [fr, cnd, Act.put, cond_true]
  simp only [List.setIfInBounds_toArray, List.set_cons_zero, List.set_cons_succ]
  have hv : decide ((0 : Int) ≤ m) = hasC l x := by
    by_cases h : x ∈ l
    · rw [show hasC l x = true by unfold hasC; simpa using h]
      simpa using hmm.1 h
    · rw [show hasC l x = false by unfold hasC; simpa using h, hmm.2 h]
      decide
  rw [hv]
  go_wp2_with fail
  go_ret
  have hB2 := hB.trans (hb2.mono (by have := hB.size; omega))
  exact ⟨rfl, by first | exact hB2 | (rw [hb]; exact hB2)⟩
/-- The keys of the cells that others lack. -/
noncomputable def unlC (l o : List Cl) : List ByteArray := (l.filter fun c => !hasC o c).map (·.ky)
theorem unlC_next {l o : List Cl} {k : Nat} {x : Cl} (h : l[k]? = some x) : unlC (l.take (k + 1)) o = if hasC o x then unlC (l.take k) o else unlC (l.take k) o ++ [x.ky] := by
  unfold unlC
  rw [List.take_add_one, h]
  cases hh : hasC o x <;> simp [hh]
theorem unlC_len (l o : List Cl) : (unlC l o).length ≤ l.length := by unfold unlC; rw [List.length_map]; exact List.length_filter_le _ _
set_option maxRecDepth 100000 in
set_option maxHeartbeats 4000000 in
theorem unlike_any (A : Option Addr) (n c : Nat) (l : List Cl) (A2 : Option Addr) (m d : Nat) (o : List Cl) (w : World) (hn : l.length = n) (hr : RdX 4 w.heap.size w A (l.map Cl.cells)) (hm : n ≤ 1000000) (hn2 : o.length = m) (hr2 : RdX 4 w.heap.size w A2 (o.map Cl.cells)) (hm2 : m ≤ 1000000) : Calls Try.prog 24 #[.slice A n c, .slice A2 m d] w fun e w' => ∃ (A3 : Option Addr) (n3 c3 : Nat), e = .returned (.slice A3 n3 c3) ∧ OwnS w.heap.size w' A3 n3 c3 (unlC l o) ∧ Below w.heap.size w w' := by
  have HN := Lib.hid hn
  have HN2 := Lib.hid hn2
  have HR := Lib.hid (fun W (h : Below w.heap.size w W) => hr.keep (W' := W) h (Nat.le_refl _))
  have HR2 := Lib.hid (fun W (h : Below w.heap.size w W) => hr2.keep (W' := W) h (Nat.le_refl _))
  clear hn hr hn2 hr2
  go_enter Try.func24, Try.ntmps24
  go_wp2_with fail
  go_loopw [5, 7, 10] (fun h5 _ i wr => ∃ (k : Nat) (A5 : Option Addr) (n5 c5 : Nat), k ≤ n ∧ i = .int .i64 k ∧ h5 = .slice A5 n5 c5 ∧ OwnS w.heap.size wr A5 n5 c5 (unlC (l.take k) o) ∧ Below w.heap.size w wr) (fun _ _ i _ => n - (intOf i).toNat)
  case atStart => exact ⟨0, none, 0, 0, Nat.zero_le _, rfl, rfl, OwnS.nil _ _, Below.refl _ _⟩
  case round =>
    obtain ⟨k, A5, n5, c5, hk, rfl, rfl, hO, hB⟩ := hrel
    by_cases hlt : k < n
    · obtain ⟨x, hx⟩ : ∃ x, l[k]? = some x := ⟨_, List.getElem?_eq_getElem (show k < l.length by have := HN.out; omega)⟩
      obtain ⟨ad, rfl, _, hc⟩ := HR.out wr hB k x.cells (by rw [List.getElem?_map, hx]; rfl)
      have i2 : (k : Int) < (n : Int) := by omega
      have HX : Hid (unlC (l.take (k + 1)) o = if hasC o x then unlC (l.take k) o else unlC (l.take k) o ++ [x.ky]) := unlC_next hx
      have hn5 : n5 ≤ k := by
        have h := hO.len
        have h2 := unlC_len (l.take k) o
        rw [List.length_take] at h2
        omega
      have ix := cix wr ad n c k hlt
      have ld := cld hc
      clear hc
      go_upto_region 4 with fail
      refine wp_region_lit ?_
      refine fl_start ?_
      generalize ha : Act.mk _ _ = a0
      have hn : a0.tmps.size = 25 := by rw [← ha]; kernel_rfl
      have h8 : (fr a0 []).eval (.tmp 8) = .slice (some ad) n c := by rw [← ha]; kernel_rfl
      refine fl_know hn rfl h8 ?_
      clear h8
      have h10 : (fr a0 [(8, true, .slice (some ad) n c)]).eval (.tmp 10) = .int .i64 (k : Int) := by rw [← ha]; kernel_rfl
      refine fl_know hn rfl h10 ?_
      clear h10
      refine g_ix hn ?_
      refine g_ld hn ?_
      refine al_row hn (alC wr) ?_
      intro q w3 hq hY hB2
      refine g_str hY ?_ (h1 := cl_oneC x)
      intro w4 ho hY4
      refine fl_end ?_
      clear hn
      subst ha
      dsimp only [fr, cnd, Act.put, cond_true]
      simp only [List.setIfInBounds_toArray, List.set_cons_zero, List.set_cons_succ]
      have hW4 : Below wr.heap.size wr w4 := hB2.trans (ho.below (by omega))
      have hO4 := hO.keep hW4
      have hB4 : Below w.heap.size w w4 := hB.trans (hW4.mono hB.size)
      have hqw : w.heap.size ≤ q := by have := hB.size; omega
      clear ix ld hY hB2 ho hW4 hO hq
      have l1 := cld_blk hY4
      have cC := conCl_any A2 m d o x w4 HN2.out ((HR2.out w4 hB4).more hB4.size) hm2
      go_upto_region 5 with fail
      refine wp_region_lit ?_
      refine fl_start ?_
      generalize ha : Act.mk _ _ = a0
      have hn : a0.tmps.size = 25 := by rw [← ha]; kernel_rfl
      have h1 : (fr a0 []).eval (.tmp 1) = .slice A2 m d := by rw [← ha]; kernel_rfl
      refine fl_know hn rfl h1 ?_
      clear h1
      have h7 : (fr a0 [(1, true, .slice A2 m d)]).eval (.tmp 7) = .pointer (some ⟨q, 0, none⟩) := by rw [← ha]; kernel_rfl
      refine fl_know hn rfl h7 ?_
      clear h7
      refine g_mv hn ?_
      refine g_ld hn ?_
      refine g_c2x en_slices_Contains_spinney_api_Cell_spinney_api_Cell hn (R := fun v w5 => v = .bool (hasC o x) ∧ Below w4.heap.size w4 w5) (cC.mono fun _ _ ⟨he, hb2⟩ => ⟨_, he, rfl, hb2⟩) ?_
      rintro v w5 ⟨rfl, hb5⟩
      refine g_nt hn ?_
      refine fl_end ?_
      clear hn l1 cC
      subst ha
      dsimp only [fr, cnd, Act.put, cond_true]
      simp only [List.setIfInBounds_toArray, List.set_cons_zero, List.set_cons_succ]
      have hO5 := hO4.keep hb5
      have hY5 := hY4.keep hb5
      have hB5 : Below w.heap.size w w5 := hB4.trans (hb5.mono hB4.size)
      clear hO4 hY4 hb5
      cases hh : hasC o x with
      | true =>
        have HZ : Hid (unlC (l.take (k + 1)) o = unlC (l.take k) o) := by show _ = _; rw [HX.out, hh]; rfl
        have hO6 : OwnS w.heap.size w5 A5 n5 c5 (unlC (l.take (k + 1)) o) := by rw [HZ.out]; exact hO5
        clear hO5
        go_wp2_with fail
        refine ⟨?_, ?_⟩
        · first
          | exact ⟨k + 1, A5, n5, c5, by omega, by go_num, rfl, hO6, hB5⟩
          | repeat apply Exists.intro
            refine ⟨?_, rfl⟩
            exact ⟨k + 1, A5, n5, c5, by omega, by go_num, rfl, hO6, hB5⟩
        · simp [intOf]; omega
      | false =>
        have HZ : Hid (unlC (l.take (k + 1)) o = unlC (l.take k) o ++ [x.ky]) := by show _ = _; rw [HX.out, hh]; rfl
        have f1 := fcl0 w5 q
        have l1 := ld_ky hY5
        go_upto_region 6 with fail
        refine wp_region_lit ?_
        refine fl_start ?_
        generalize ha : Act.mk _ _ = a0
        have hn : a0.tmps.size = 25 := by rw [← ha]; kernel_rfl
        have h5 : (fr a0 []).eval (.tmp 5) = .slice A5 n5 c5 := by rw [← ha]; kernel_rfl
        refine fl_know hn rfl h5 ?_
        clear h5
        have h7 : (fr a0 [(5, true, .slice A5 n5 c5)]).eval (.tmp 7) = .pointer (some ⟨q, 0, none⟩) := by rw [← ha]; kernel_rfl
        refine fl_know hn rfl h7 ?_
        clear h7
        refine g_mv hn ?_
        refine g_fd hn ?_
        refine g_ld hn ?_
        refine g_bsX hn Try.underlying24 stEl_info (by decide) (by decide) rfl (bsSt x.ky) ?_
        intro g w7 hg hG hb7
        have hO7 := hO5.keep hb7
        have hB7 : Below w.heap.size w w7 := hB5.trans (hb7.mono hB5.size)
        refine g_apS (base := w.heap.size) (m := 1) (xs := [x.ky]) hn hO7 (rdS_one hG) rfl (by omega) hB7.size ?_
        intro A8 c8 w8 hO8 hB8 _
        refine g_as hn ?_
        refine fl_end ?_
        clear hn f1 l1
        subst ha
        dsimp only [fr, cnd, Act.put, cond_true]
        simp only [List.setIfInBounds_toArray, List.set_cons_zero, List.set_cons_succ]
        have hO9 : OwnS w.heap.size w8 A8 (n5 + 1) c8 (unlC (l.take (k + 1)) o) := by rw [HZ.out]; exact hO8
        clear hO5 hO7 hO8 hG hY5
        go_wp2_with fail
        refine ⟨?_, ?_⟩
        · first
          | exact ⟨k + 1, A8, n5 + 1, c8, by omega, by go_num, rfl, hO9, hB7.trans hB8⟩
          | repeat apply Exists.intro
            refine ⟨?_, rfl⟩
            exact ⟨k + 1, A8, n5 + 1, c8, by omega, by go_num, rfl, hO9, hB7.trans hB8⟩
        · simp [intOf]; omega
    · have i2 : ¬ (k : Int) < (n : Int) := by omega
      have e : l.take k = l := List.take_of_length_le (by have := HN.out; omega)
      rw [e] at hO
      go_wp2_with fail
      go_ret
      exact ⟨A5, n5, c5, rfl, hO, hB⟩
end Go.Proofs.Ytokkmofcijfmiab
