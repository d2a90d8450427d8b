/-
  WHAT IS PROVED: slate's forget; a step, of a slate as a whole; Remove. Conditions: those typed in each theorem.
-/
import Derived.Test.YtgbopikhdpmmcaaDoorSlDelF
namespace Go.Proofs.YtgbopikhdpmmcaaDoor
open Go.RowKit

/-- DeleteFunc of a row that may be nil. -/
def DelA (base : Nat) (A : Option Addr) (c : Nat) (p : Pw → Bool) (l : List Pw) (w : World) (v : Value) (w' : World) : Prop := ∃ n2, v = .slice A n2 c ∧ OwnX 87 66 base w' A n2 c ((notP p l).map Pw.cells) ∧ w.grownBy w' (A.map (·.block))
set_option maxRecDepth 100000 in
set_option maxHeartbeats 4000000 in
theorem delA_any (g : Nat) (lb : Array Value) (eg : ∀ args w, (callFunc g args).run Tryd.prog w = .ok (.enter g args) w) (p : Pw → Bool) (q : List (Nat × Int)) (base n c : Nat) (A : Option Addr) (l : List Pw) (w : World) (hO : OwnX 87 66 base w A n c (l.map Pw.cells)) (h64 : ∀ x, x ∈ l → x.l.length = 64) (hp : PredP g lb p q) (hq : CapK q w) (hqr : ∀ a, A = some a → ∀ y, y ∈ q → y.1 ≠ a.block) :
    Calls Tryd.prog 46 #[.slice A n c, .func (.func g) #[] lb] w fun e w' => ∃ v, e = .returned v ∧ DelA base A c p l w v w' := by
  cases hA : A with
  | some a =>
    have ha : ∃ r, a = ⟨r, 0, none⟩ := by
      rcases hO.1.2 with ⟨hv, _⟩ | ⟨r, _, _, hv, _⟩
      · injection hv with h1
        rw [hA] at h1
        cases h1
      · injection hv with h1
        rw [hA] at h1
        injection h1 with h1
        exact ⟨r, h1⟩
    obtain ⟨r, rfl⟩ := ha
    subst hA
    exact (delP_any g lb eg p q base r n c l w hO h64 hp hq (hqr _ rfl)).mono fun _ _ ⟨n2, he, hR⟩ => ⟨_, he, n2, rfl, hR.own, hR.gr⟩
  | none =>
    subst hA
    have hnc : n = 0 ∧ c = 0 := by
      rcases hO.1.2 with ⟨hv, h0⟩ | ⟨r, _, _, hv, _⟩
      · injection hv with _ _ h1
        exact ⟨h0, h1⟩
      · injection hv with h1
        cases h1
    obtain ⟨rfl, rfl⟩ := hnc
    have hl : l = [] := by
      have := hO.len
      rw [List.length_map] at this
      exact List.eq_nil_of_length_eq_zero this
    subst hl
    have HI := Lib.hid (idxP_any g lb eg p q none 0 0 [] w rfl (fun k x hx => by simp at hx) h64 (Nat.zero_le _) hp hq)
    clear hO h64 hp hq hqr
    go_enter Tryd.func46, Tryd.ntmps46
    go_upto_region 1 with fail
    refine wp_region_lit ?_
    refine fl_start ?_
    generalize ha : Act.mk _ _ = a0
    have hn : a0.tmps.size = 42 := by rw [← ha]; kernel_rfl
    have h0 : (fr a0 []).eval (.tmp 0) = .slice none 0 0 := by rw [← ha]; kernel_rfl
    refine fl_know hn rfl h0 ?_
    clear h0
    have h1 : (fr a0 [(0, true, .slice none 0 0)]).eval (.tmp 1) = .func (.func g) #[] lb := by rw [← ha]; kernel_rfl
    refine fl_know hn rfl h1 ?_
    clear h1
    repeat first | refine g_mv hn ?_ | refine g_as hn ?_ | refine g_fd hn ?_ | refine g_ld hn ?_ | refine g_nc hn ?_ | refine g_nt hn ?_ | refine g_an hn ?_ | refine g_or hn ?_ | refine g_ln hn ?_ | refine g_ex hn ?_ | refine g_neq2 hn ?_ | refine g_neq hn ?_ | refine g_eql2 hn ?_ | refine g_eql hn ?_ | refine g_leq2 hn ?_ | refine g_leq hn ?_ | refine g_lss2 hn ?_ | refine g_lss hn ?_ | refine g_gtr2 hn ?_ | refine g_gtr hn ?_ | refine g_geq2 hn ?_ | refine g_geq hn ?_ | refine g_b0 hn ?_ | refine g_bn hn ?_ | refine g_bc hn ?_ | refine g_cv hn ?_ | refine g_ac hn ?_ | refine g_mc hn ?_
    refine g_c2x enters_Idx hn (R := fun v w2 => ∃ z : Int, v = .int .i64 z ∧ IdxR p [] z ∧ Below w.heap.size w w2) (HI.out.mono fun _ _ ⟨⟨z, he, hz⟩, hb⟩ => ⟨_, he, z, rfl, hz, hb⟩) ?_
    rintro v w2 ⟨z, rfl, hz, hb2⟩
    repeat first | refine g_mv hn ?_ | refine g_as hn ?_ | refine g_fd hn ?_ | refine g_ld hn ?_ | refine g_nc hn ?_ | refine g_nt hn ?_ | refine g_an hn ?_ | refine g_or hn ?_ | refine g_ln hn ?_ | refine g_ex hn ?_ | refine g_neq2 hn ?_ | refine g_neq hn ?_ | refine g_eql2 hn ?_ | refine g_eql hn ?_ | refine g_leq2 hn ?_ | refine g_leq hn ?_ | refine g_lss2 hn ?_ | refine g_lss hn ?_ | refine g_gtr2 hn ?_ | refine g_gtr hn ?_ | refine g_geq2 hn ?_ | refine g_geq hn ?_ | refine g_b0 hn ?_ | refine g_bn hn ?_ | refine g_bc hn ?_ | refine g_cv hn ?_ | refine g_ac hn ?_ | refine g_mc hn ?_
    refine fl_end ?_
    clear hn
    subst ha
    dsimp only [fr, cnd, Act.put, cond_true]
    simp only [List.setIfInBounds_toArray, List.set_cons_zero, List.set_cons_succ]
    rcases hz with ⟨rfl, hno⟩ | ⟨k, x, _, hx, _⟩
    · clear hno HI
      go_wp2_with fail
      go_ret
      exact ⟨_, rfl, 0, rfl, OwnX.nil _ _ _ _, hb2.os, hb2.tape, hb2.output, hb2.size, fun k hk _ => hb2.block k hk⟩
    · simp at hx
/-- What a slate is whose pending writes have turned. -/
theorem pend_fin {B s d1 d2 n n' c c' : Nat} {tg : Nat → Nat × Int} {f1 f2 : Int → Option Value} {A A' : Option Addr} {M : Sl} {l0 : List (Array Value)} {l : List Pw} {w0 w8 w10 : World} (hsB : B ≤ s) (hX : Blk w8 s (slI d1 d2 A n c M.armed M.budget M.dead) 81) (hD1 : DkR B tg 0 w8 d1 M.kept f1) (hD2 : DkR B tg 1 w8 d2 M.seen f2) (hO : OwnX 87 66 B w8 A n c l0)
    (hK : StK B w0 w8) (hP : ∀ y, y ∈ l → y.l.length = 64) (hb0 : 0 ≤ M.budget) (hb1 : M.budget ≤ 1099511627776) (hB : B ≤ w8.heap.size) (hg : w8.grownBy w10 (A.map (·.block))) (hO10 : OwnX 87 66 B w10 A' n' c' (l.map Pw.cells)) :
    Blk w10 s (slI d1 d2 A n c M.armed M.budget M.dead) 81 ∧ ∀ w11, Only1 s w10 w11 → Blk w11 s (slI d1 d2 A' n' c' M.armed M.budget M.dead) 81 → SlR B w11 s { M with pend := l } ∧ StK B w0 w11 := by
  have hold : ∀ y, y < w8.heap.size → (∀ cs, ¬ Blk w8 y cs 87) → w10.heap[y]? = w8.heap[y]? := fun y hy hn => by
    refine hg.block y hy ?_
    intro e
    cases hA : A with
    | none => rw [hA] at e; cases e
    | some a =>
      rw [hA] at e
      injection e with e
      have e' : a.block = y := e.symm
      obtain ⟨_, cs, hb⟩ := hO.row hA
      rw [e'] at hb
      exact hn cs hb
  have hX10 : Blk w10 s (slI d1 d2 A n c M.armed M.budget M.dead) 81 := (hold s hX.lt (fun cs hb => by
    unfold Blk at hX hb
    rw [hX] at hb
    injection hb with hb
    injection hb with _ hb _
    exact absurd hb (by decide))).trans hX
  refine ⟨hX10, fun w11 ho hX11 => ?_⟩
  have hmap : ∀ (y : Nat) (es : Array MapEntry) (cl : Nat), w8.heap[y]? = some (Obj.map es cl) → w11.heap[y]? = w8.heap[y]? := fun y es cl hy => by
    have hlt := (Array.getElem?_eq_some_iff.1 hy).1
    refine (ho.block y ?_).trans (hold y hlt fun cs hb => ?_)
    · rintro rfl
      unfold Blk at hX
      rw [hy] at hX
      cases hX
    · unfold Blk at hb
      rw [hy] at hb
      cases hb
  have hbel : Below B w8 w11 := ((Below.refl B _).grown hg (by omega) (fun k hk => by
    cases hA : A with
    | none => rw [hA] at hk; cases hk
    | some a =>
      rw [hA] at hk
      injection hk with hk
      have e' : a.block = k := hk
      rw [← e']
      exact (hO.row hA).1)).trans (ho.below hsB)
  refine ⟨⟨tg, d1, d2, f1, f2, A', n', c', hX11, hsB, hD1.maps hmap, hD2.maps hmap, hO10.only hX10 ho (by decide), hP, hb0, hb1, Nat.le_trans hB hbel.size⟩, hK.trans ⟨hbel, fun y cs t fr hy h1 h2 => ?_⟩⟩
  have hlt := (Array.getElem?_eq_some_iff.1 hy).1
  refine (ho.block y ?_).trans (hold y hlt fun cs2 hb => ?_)
  · rintro rfl
    unfold Blk at hX
    rw [hy] at hX
    injection hX with hX
    injection hX with _ hX _
    exact h1 hX
  · unfold Blk at hb
    rw [hy] at hb
    injection hb with hb
    injection hb with _ hb _
    exact h2 hb
theorem x_mf {P : Program} {i f : Nat} {d : Option Tmp} {ty : TypeId} {p : String} {af : Array Edge} {gd : Option (Nat × Bool)} {v : Value} {ρ : Operand → Value} {w : World} (h : ρ (.tmp i) = v) : (execOp ρ ⟨d, .makeFunc (.func f) #[] #[.tmp i], ty, p, af, gd⟩).run P w = .ok (.value (.func (.func f) #[] #[v])) w := by
  unfold execOp
  dsimp only
  go_simp
theorem enters_Del : ∀ args w, (callFunc 46 args).run Tryd.prog w = .ok (.enter 46 args) w := enters_of Tryd.func46 (by kernel_rfl) rfl
theorem enters_forget : ∀ args w, (callFunc 38 args).run Tryd.prog w = .ok (.enter 38 args) w := enters_of Tryd.func38 (by kernel_rfl) rfl

def isF (f : Int) : Pw → Bool := fun x => x.f == f
def Sl.forgets (M : Sl) (f : Int) : Sl := { M with pend := notP (isF f) M.pend }
theorem notp_mem {p : Pw → Bool} {l : List Pw} {x : Pw} (h : x ∈ notP p l) : x ∈ l := (List.mem_filter.1 h).1
set_option maxRecDepth 100000 in
set_option maxHeartbeats 4000000 in
theorem forget_any (B s : Nat) (M : Sl) (f : Int) (W : World) (hR : SlR B W s M) : Calls Tryd.prog 38 #[.pointer (some ⟨s, 0, none⟩), .int .i64 f] W fun e W' => e = .returned (.tuple #[]) ∧ SlR B W' s (M.forgets f) ∧ StK B W W' := by
  obtain ⟨tg, d1, d2, f1, f2, A, n, c, hX0, hsB, hD10, hD20, hO0, hP, hb0, hb1, hBW⟩ := hR
  go_enter Tryd.func38, Tryd.ntmps38
  go_upto_region 1 with fail
  have hY : (W.alloc (.cells #[.int .i64 f] 3)).cell? ⟨W.heap.size, 0, none⟩ = some (.int .i64 f) := (blk_new W #[.int .i64 f] 3).cell 0
  have hBel := b0 W (.cells #[.int .i64 f] 3)
  have hX := hX0.keep hBel
  have hD1 := hD10.below hBel
  have hD2 := hD20.below hBel
  have hO := hO0.keep hBel
  have hbA : ∀ a, A = some a → a.block < W.heap.size := fun a ha => (hO0.blk ha).2
  have hK := StK.of_below hBel hBW
  have hBW1 := Nat.le_trans hBW hBel.size
  clear hX0 hD10 hD20 hO0 hBel
  generalize W.alloc (.cells #[.int .i64 f] 3) = W1 at hY hX hD1 hD2 hO hK hBW1 ⊢
  generalize hb : W.heap.size = b at hY hbA ⊢
  have a2 := sl_a2 W1 s
  have l2 := sl_l2 hX
  have hq : CapK [(b, f)] W1 := fun p hp => by
    have e : p = (b, f) := by simpa using hp
    rw [e]
    exact hY
  have hqr : ∀ a, A = some a → ∀ y, y ∈ [(b, f)] → y.1 ≠ a.block := fun a ha y hy => by
    have e : y = (b, f) := by simpa using hy
    have := hbA a ha
    rw [e]
    dsimp only
    omega
  have HD := Lib.hid (delA_any 47 #[.pointer (some ⟨b, 0, none⟩)] enters_fg1 (isF f) [(b, f)] B n c A M.pend W1 hO hP (fg1_any b f) hq hqr)
  clear hq hqr hY hbA
  refine wp_region_lit ?_
  refine fl_start ?_
  generalize ha : Act.mk _ _ = a0
  have hn : a0.tmps.size = 13 := by rw [← ha]; kernel_rfl
  have h0 : (fr a0 []).eval (.tmp 0) = .pointer (some ⟨s, 0, none⟩) := by rw [← ha]; kernel_rfl
  refine fl_know hn rfl h0 ?_
  clear h0
  have h3 : (fr a0 [(0, true, .pointer (some ⟨s, 0, none⟩))]).eval (.tmp 3) = .pointer (some ⟨b, 0, none⟩) := by rw [← ha]; kernel_rfl
  refine fl_know hn rfl h3 ?_
  clear h3
  repeat first | refine g_mv hn ?_ | refine g_as hn ?_ | refine g_fd hn ?_ | refine g_ld hn ?_ | refine g_nc hn ?_ | refine g_nt hn ?_ | refine g_an hn ?_ | refine g_or hn ?_ | refine g_ln hn ?_ | refine g_ex hn ?_ | refine g_neq2 hn ?_ | refine g_neq hn ?_ | refine g_eql2 hn ?_ | refine g_eql hn ?_ | refine g_leq2 hn ?_ | refine g_leq hn ?_ | refine g_lss2 hn ?_ | refine g_lss hn ?_ | refine g_gtr2 hn ?_ | refine g_gtr hn ?_ | refine g_geq2 hn ?_ | refine g_geq hn ?_ | refine g_b0 hn ?_ | refine g_bn hn ?_ | refine g_bc hn ?_ | refine g_cv hn ?_ | refine g_ac hn ?_ | refine g_mc hn ?_
  refine g_o1 hn (i := 3) (vi := .pointer (some ⟨b, 0, none⟩)) (v := .func (.func 47) #[] #[.pointer (some ⟨b, 0, none⟩)]) (fun ρ h _ => x_mf h) ?_
  refine g_c2x enters_Del hn HD.out ?_
  rintro v w2 ⟨n2, rfl, hO2, hg2⟩
  obtain ⟨hX2, hF⟩ := pend_fin (M := M) (l := notP (isF f) M.pend) hsB hX hD1 hD2 hO hK (fun y hy => hP y (notp_mem hy)) hb0 hb1 hBW1 hg2 hO2
  have a2 := sl_a2 w2 s
  repeat first | refine g_mv hn ?_ | refine g_as hn ?_ | refine g_fd hn ?_ | refine g_ld hn ?_ | refine g_nc hn ?_ | refine g_nt hn ?_ | refine g_an hn ?_ | refine g_or hn ?_ | refine g_ln hn ?_ | refine g_ex hn ?_ | refine g_neq2 hn ?_ | refine g_neq hn ?_ | refine g_eql2 hn ?_ | refine g_eql hn ?_ | refine g_leq2 hn ?_ | refine g_leq hn ?_ | refine g_lss2 hn ?_ | refine g_lss hn ?_ | refine g_gtr2 hn ?_ | refine g_gtr hn ?_ | refine g_geq2 hn ?_ | refine g_geq hn ?_ | refine g_b0 hn ?_ | refine g_bn hn ?_ | refine g_bc hn ?_ | refine g_cv hn ?_ | refine g_ac hn ?_ | refine g_mc hn ?_
  refine g_stt hX2 (st_slP (j := 2) hX2 (by simp) A n2 c) ?_
  intro w3 ho3 hX3
  refine fl_end ?_
  clear hn
  subst ha
  dsimp only [fr, cnd, Act.put, cond_true]
  simp only [List.setIfInBounds_toArray, List.set_cons_zero, List.set_cons_succ]
  have R : Hid (SlR B w3 s (M.forgets f) ∧ StK B W w3) := hF w3 ho3 hX3
  clear hF hX hX2 hX3 hO hO2 hD1 hD2 a2 l2 HD hK
  go_wp2_with fail
  go_end0
  exact ⟨rfl, R.out⟩
end Go.Proofs.YtgbopikhdpmmcaaDoor
