/-
  WHAT IS PROVED: an argument of the type api.Op, opened and shut; what a row's list of the library's variables and the world's shape give the walks of layer 2.
-/
import Derived.Test.YtmilcgikncecnaaDoorPost
import Derived.Test.YtmilcgikncecnaaDoorDeedGood
import Derived.Test.YtmilcgikncecnaaDoorParse
import Derived.Stop.LaidErr
import Derived.MakeChecks
import Derived.Shelf.Vars
import Derived.Deep.Strs
namespace Go.Proofs.YtmilcgikncecnaaDoor
open Go.RowKit Go.WideShapes Go.ChangeShapes

section
open Go.Joins Go.Deep
variable {H : Type} {enc : TypeId × Value → H}
theorem cellsO : Tryd.prog.cellsOf 28 = 8 := by kernel_rfl
theorem cellsI : Tryd.prog.cellsOf 3 = 1 := by kernel_rfl
theorem cellsK : Tryd.prog.cellsOf 24 = 1 := by kernel_rfl
theorem cellsS : Tryd.prog.cellsOf 9 = 1 := by kernel_rfl

set_option maxRecDepth 100000 in
theorem open_cells {W : World} {base : Nat} {spare : Nat → Bool} {held : Bool} {fuel : Nat} {c0 c1 c2 : Value} {y : DataW H × List MemPlace} (h : DataW.trod enc Tryd.prog W base spare held fuel 26 [c0, c1, c2] = some y) :
    ∃ (k n : Int) (s : ByteArray), c0 = .int .i64 k ∧ c1 = .int .i64 n ∧ c2 = .string s ∧ y = (.agg [.lit (.int .i64 k), .lit (.int .i64 n), .lit (.string s.data.toList)], []) ∧ (Lit.int .i64 k).wf = true ∧ (Lit.int .i64 n).wf = true ∧ s.size ≤ maxLen := by
  obtain ⟨y0, y1, y2, m, rfl, _, h0, h1, h2⟩ := trod_struct3 Tryd.underlying26 h
  simp only [cellsI, cellsK, cellsS, List.drop_zero, List.drop_succ_cons, List.take_succ_cons, List.take_zero] at h0 h1 h2
  obtain ⟨k, e0, rfl, wk⟩ := DataW.trod_int Tryd.underlying24 h0
  obtain ⟨n, e1, rfl, wn⟩ := DataW.trod_int Tryd.underlying3 h1
  obtain ⟨s, e2, rfl, ws⟩ := DataW.trod_string Tryd.underlying9 h2
  simp at e0 e1 e2
  subst e0 e1 e2
  exact ⟨k, n, s, rfl, rfl, rfl, rfl, wk, wn, ws⟩

set_option maxRecDepth 100000 in
/-- An argument of the type api.Op, opened. -/
theorem open_op {W : World} {r : Reach} {b0 base : Nat} {spare : Nat → Bool} {held : Bool} {v : Value} {d : DataW H} {p : List MemPlace} (hv : Value.okWide Tryd.prog W r b0 28 v) (h : DataW.Trod enc Tryd.prog W base spare held 28 v d p) :
    ∃ (K : Int) (ky : ByteArray) (ka na : Int) (sa : ByteArray) (kb nb : Int) (sb : ByteArray), v = opV K ky ka na sa kb nb sb ∧
      d = .agg [.lit (.int .i64 K), .lit (.string ky.data.toList), .agg [.lit (.int .i64 ka), .lit (.int .i64 na), .lit (.string sa.data.toList)], .agg [.lit (.int .i64 kb), .lit (.int .i64 nb), .lit (.string sb.data.toList)]] ∧ p = [] ∧
      (Lit.int .i64 K).wf = true ∧ ky.size ≤ maxLen ∧ (Lit.int .i64 ka).wf = true ∧ (Lit.int .i64 na).wf = true ∧ sa.size ≤ maxLen ∧ (Lit.int .i64 kb).wf = true ∧ (Lit.int .i64 nb).wf = true ∧ sb.size ≤ maxLen := by
  obtain ⟨cs, rfl, hsz⟩ := okWide_struct Tryd.underlying28 hv
  obtain ⟨l⟩ := cs
  match l, hsz.trans cellsO with
  | [c0, c1, c2, c3, c4, c5, c6, c7], _ =>
    obtain ⟨fuel, hf⟩ := h
    obtain ⟨y0, y1, y2, y3, n, hx, _, h0, h1, h2, h3⟩ := trod_struct4 Tryd.underlying28 hf
    simp only [Value.cells, cellsI, cellsS, cellsV, List.drop_zero, List.drop_succ_cons, List.take_succ_cons, List.take_zero] at h0 h1 h2 h3
    obtain ⟨K, e0, rfl, wK⟩ := DataW.trod_int Tryd.underlying3 h0
    obtain ⟨ky, e1, rfl, wky⟩ := DataW.trod_string Tryd.underlying9 h1
    simp at e0 e1
    subst e0 e1
    obtain ⟨ka, na, sa, rfl, rfl, rfl, rfl, wka, wna, wsa⟩ := open_cells h2
    obtain ⟨kb, nb, sb, rfl, rfl, rfl, rfl, wkb, wnb, wsb⟩ := open_cells h3
    simp only [Prod.mk.injEq, List.append_nil] at hx
    exact ⟨K, ky, ka, na, sa, kb, nb, sb, rfl, hx.1, hx.2, wK, wky, wka, wna, wsa, wkb, wnb, wsb⟩

set_option maxRecDepth 100000 in
theorem shut_cells {W : World} {base : Nat} {spare : Nat → Bool} {held : Bool} {k n : Int} {s : ByteArray} (wk : (Lit.int .i64 k).wf = true) (wn : (Lit.int .i64 n).wf = true) (ws : s.size ≤ maxLen) :
    DataW.trod enc Tryd.prog W base spare held 2 26 [.int .i64 k, .int .i64 n, .string s] = some (.agg [.lit (.int .i64 k), .lit (.int .i64 n), .lit (.string s.data.toList)], []) := by
  have := trod_struct3_mk (enc := enc) (w := W) (base := base) (spare := spare) (held := held) (n := 1) (cs := [.int .i64 k, .int .i64 n, .string s]) (y0 := (.lit (.int .i64 k), [])) (y1 := (.lit (.int .i64 n), [])) (y2 := (.lit (.string s.data.toList), [])) Tryd.underlying26 (by simp [cellsV])
    (by simp [DataW.trod, cellsK, Tryd.underlying24, wk]) (by simp [DataW.trod, cellsI, Tryd.underlying3, wn]) (by simp [DataW.trod, cellsS, Tryd.underlying9, ws])
  simpa using this

set_option maxRecDepth 100000 in
/-- .. and shut. -/
theorem shut_op {W : World} {base : Nat} {spare : Nat → Bool} {held : Bool} {K ka na kb nb : Int} {ky sa sb : ByteArray} (wK : (Lit.int .i64 K).wf = true) (wky : ky.size ≤ maxLen) (wka : (Lit.int .i64 ka).wf = true) (wna : (Lit.int .i64 na).wf = true) (wsa : sa.size ≤ maxLen)
    (wkb : (Lit.int .i64 kb).wf = true) (wnb : (Lit.int .i64 nb).wf = true) (wsb : sb.size ≤ maxLen) :
    DataW.Trod enc Tryd.prog W base spare held 28 (opV K ky ka na sa kb nb sb)
      (.agg [.lit (.int .i64 K), .lit (.string ky.data.toList), .agg [.lit (.int .i64 ka), .lit (.int .i64 na), .lit (.string sa.data.toList)], .agg [.lit (.int .i64 kb), .lit (.int .i64 nb), .lit (.string sb.data.toList)]]) [] := by
  have h2 := shut_cells (enc := enc) (W := W) (base := base) (spare := spare) (held := held) wka wna wsa
  have h3 := shut_cells (enc := enc) (W := W) (base := base) (spare := spare) (held := held) wkb wnb wsb
  have := trod_struct4_mk (enc := enc) (w := W) (base := base) (spare := spare) (held := held) (n := 2) (cs := [.int .i64 K, .string ky, .int .i64 ka, .int .i64 na, .string sa, .int .i64 kb, .int .i64 nb, .string sb]) (y0 := (.lit (.int .i64 K), [])) (y1 := (.lit (.string ky.data.toList), []))
    (y2 := (.agg [.lit (.int .i64 ka), .lit (.int .i64 na), .lit (.string sa.data.toList)], [])) (y3 := (.agg [.lit (.int .i64 kb), .lit (.int .i64 nb), .lit (.string sb.data.toList)], [])) Tryd.underlying28 (by simp [cellsO])
    (by simp [DataW.trod, cellsI, Tryd.underlying3, wK]) (by simp [DataW.trod, cellsS, Tryd.underlying9, wky]) (by simpa [cellsV] using h2) (by simpa [cellsV] using h3)
  exact ⟨3, by simpa [Value.cells] using this⟩
end

theorem gTabType : (Tryd.prog.globals[1]?).map (·.type) = some 101 := by kernel_rfl
theorem gRangeType : (Tryd.prog.globals[5]?).map (·.type) = some 64 := by kernel_rfl
theorem cellsTab : Tryd.prog.cellsOf 101 = 20 := by kernel_rfl
theorem cellsU64 : Tryd.prog.cellsOf 73 = 1 := by kernel_rfl
theorem cellsErr : Tryd.prog.cellsOf 130 = 1 := by kernel_rfl
theorem cellsStr : Tryd.prog.cellsOf 9 = 1 := by kernel_rfl
theorem starErr : "*" ++ "errors.errorString" = "*errors.errorString" := by decide
theorem rowErr (u : TypeId) (h : Tryd.prog.typeName? 3 u = some "*errors.errorString") : u = 128 :=
  typeName_ptr_named (nm := "errors.errorString") (by rw [starErr]; kernel_rfl) (by kernel_rfl) (by decide) u (by rw [starErr]; exact h)

theorem maxLenZero : ((begin Tryd.prog (fun _ _ => 0) default).world.heap[0]?).bind Obj.row? = some (#[.int .i64 0], 3) := by kernel_rfl
theorem maxLen_shaped {W : World} (h : W.ShapedOpen Tryd.prog) : ∃ m : Int, W.cell? ⟨0, 0, none⟩ = some (.int .i64 m) :=
  cell_of_shapedOpen_int (k := .i64) h (of_decide_eq_true (by kernel_rfl)) maxLenZero rfl (by kernel_rfl) (by kernel_rfl) Tryd.underlying3

theorem laidD_of {W : World} {l : List (String × DataW Unit)} (hl : l = Rows.deedKeysRow.laid) (h : laidMetH Tryd.prog l W) (hs : W.ShapedOpen Tryd.prog) : LaidD W := by
  subst hl
  rw [MakeChecks.laidMetH_plain _ _ _ (by kernel_rfl)] at h
  have h2 : laidMet Tryd.prog (("internal/strconv.uint64pow10", Lib.tabData .u64 Lib.pow10Tab) :: ("unicode/utf8.acceptRanges", Rows.laid_unicode_utf8_acceptRanges) :: ("strconv.ErrRange", Rows.laid_strconv_ErrRange) :: ("strconv.ErrSyntax", Rows.laid_strconv_ErrSyntax) :: [("unicode/utf8.first", Rows.laid_unicode_utf8_first)]) W := laidMet.tail (laidMet.tail h)
  obtain ⟨a, s, hv, _, _, _⟩ := laid_sentinel (laidMet.tail (laidMet.tail h2)) gRange gRangeType Tryd.underlying64 rowErr Tryd.underlying128 Tryd.underlying130 rfl rfl Tryd.underlying9 cellsErr cellsStr
  exact ⟨⟨Lib.tabIs_of_head gTab gTabType Tryd.underlying101 Tryd.underlying73 cellsU64 cellsTab h2, _, _, hv⟩, maxLen_shaped hs⟩
end Go.Proofs.YtmilcgikncecnaaDoor
