/-
  WHAT IS PROVED: strings.Clone answers the same text; fresh.Texts answers the same texts in a row of its own. Conditions: those typed in each theorem.
-/
import Derived.Test.YtccdpbcldpmegaaDoorStrsOwn
import Derived.Test.YtccdpbcldpmegaaDoorReachLeast
import Derived.Laws.MakeOwn
namespace Go.Proofs.YtccdpbcldpmegaaDoor
open Go.RowKit

theorem sclone_any (s : ByteArray) (w : World) (hs : s.size ≤ 1000000) :
    Calls Tryd.prog 31 #[.string s] w fun e w' => e = .returned (.string s) ∧ Below w.heap.size w w' := by
  go_enter Tryd.func31, Tryd.ntmps31
  go_wp2_with fail
  refine (Tryd.stringslite_Clone s w (by omega)).mono ?_
  rintro e w2 ⟨rfl, hb2⟩
  go_wp2_with fail
  go_ret
  exact ⟨rfl, hb2⟩

theorem made_one (v : Value) (n : Nat) : (madeCells #[v] n).toList = List.replicate n v := by
  unfold madeCells
  apply List.ext_getElem
  · simp
  · intro i h1 h2
    simp [Nat.mod_one]
theorem run_makeS (W : World) (n : Nat) (hn : n ≤ 1000000) :
    (Instr.makeSlice 22 (.int .i64 (n : Int)) (.int .i64 (n : Int))).run Tryd.prog W = .ok (.slice (some ⟨W.heap.size, 0, none⟩) n n) (W.alloc (.cells (madeCells #[.string ⟨#[]⟩] n) 9)) := by
  obtain ⟨i0, hi0, hz0, hz1, hz2⟩ := info_parts str_info
  have h := run_make W 22 9 i0 (.string ⟨#[]⟩) Tryd.underlying22 hi0 hz0 .i64 .i64 (n : Int) (n : Int) (by omega) (Int.le_refl _) (by rw [hz2]; omega) (by omega)
  rw [Int.toNat_natCast, hz1, Nat.mul_one] at h
  exact h
theorem ownMade (w : World) (n : Nat) (hn : n ≤ 1000000) : OwnS w.heap.size (w.alloc (.cells (madeCells #[.string ⟨#[]⟩] n) 9)) (some ⟨w.heap.size, 0, none⟩) n n (List.replicate n ⟨#[]⟩) :=
  OwnS.lit w _ _ (by rw [made_one, strV, List.map_replicate]) (by simp) (Nat.le_refl _) (by unfold maxLen; omega)
/-- What stands there behind k rounds. -/
def freshTo (l : List ByteArray) (k : Nat) : List ByteArray := l.take k ++ List.replicate (l.length - k) ⟨#[]⟩
theorem freshTo_zero (l : List ByteArray) : freshTo l 0 = List.replicate l.length ⟨#[]⟩ := by simp [freshTo]
theorem freshTo_all (l : List ByteArray) {k : Nat} (h : k = l.length) : freshTo l k = l := by subst h; simp [freshTo]
theorem freshTo_set {l : List ByteArray} {k : Nat} {x : ByteArray} (h : l[k]? = some x) : (freshTo l k).set k x = freshTo l (k + 1) := by
  obtain ⟨hk, rfl⟩ := List.getElem?_eq_some_iff.1 h
  unfold freshTo
  rw [List.set_append_right _ _ (by rw [List.length_take]; omega), List.length_take, Nat.min_eq_left (by omega), Nat.sub_self]
  obtain ⟨d, hd⟩ : ∃ d, l.length - k = d + 1 := ⟨l.length - k - 1, by omega⟩
  rw [hd, show l.length - (k + 1) = d by omega, List.replicate_succ, List.set_cons_zero, List.take_succ_eq_append_getElem hk, List.append_assoc]
  rfl
theorem OwnS.cellAt {base : Nat} {W : World} {g n c : Nat} {l : List ByteArray} (h : OwnS base W (some ⟨g, 0, none⟩) n c l) {k : Nat} (hk : k < n) : ∃ v, W.cell? ⟨g, k, none⟩ = some v := by
  obtain ⟨ad, he, _, hc⟩ := h.rd.at_ (show k < l.length by rw [h.len]; exact hk)
  injection he with he
  subst he
  have e : (Addr.mk g 0 none).add k = Addr.mk g k none := by unfold Addr.add; split <;> simp_all
  rw [e] at hc
  exact ⟨_, hc⟩

set_option maxHeartbeats 2000000 in
theorem freshTexts_any (A : Option Addr) (n c : Nat) (l : List ByteArray) (w : World) (hn : l.length = n) (hr : RdS w.heap.size w A l) (hm : n ≤ 1000000) (hs : ∀ x, x ∈ l → x.size ≤ 1000000) :
    Calls Tryd.prog 16 #[.slice A n c] w fun e w' => (∃ g, e = .returned (.slice (some ⟨g, 0, none⟩) n n) ∧ OwnS w.heap.size w' (some ⟨g, 0, none⟩) n n l) ∧ Below w.heap.size w w' := by
  have hmk : ∀ W : World, (Instr.makeSlice 22 (.int .i64 (n : Int)) (.int .i64 (n : Int))).run Tryd.prog W = .ok (.slice (some ⟨W.heap.size, 0, none⟩) n n) (W.alloc (.cells (madeCells #[.string ⟨#[]⟩] n) 9)) := fun W => run_makeS W n hm
  have HO := Lib.hid (ownMade w n hm)
  have hBa := b0 w (.cells (madeCells #[.string ⟨#[]⟩] n) 9)
  have HN := Lib.hid hn
  have HS := Lib.hid hs
  clear hn hs
  go_enter Tryd.func16, Tryd.ntmps16
  go_wp2_with fail
  generalize w.alloc (.cells (madeCells #[.string ⟨#[]⟩] n) 9) = wa at HO hBa ⊢
  clear hmk
  go_loopw [11] (fun i wr => ∃ k : Nat, k ≤ n ∧ i = .int .i64 k ∧ OwnS w.heap.size wr (some ⟨w.heap.size, 0, none⟩) n n (freshTo l k) ∧ Below w.heap.size w wr) (fun i _ => n - (intOf i).toNat)
  case atStart => exact ⟨0, Nat.zero_le _, rfl, by rw [freshTo_zero, HN.out]; exact HO.out, hBa⟩
  case round =>
    obtain ⟨k, hk, rfl, hO, hB⟩ := hrel
    clear HO hBa
    by_cases hlt : k < n
    · obtain ⟨x, hx⟩ := get_ex (show k < l.length by have := HN.out; omega)
      obtain ⟨ad, rfl, _, hc⟩ := (hr.keep hB (Nat.le_refl _)) k x hx
      have i1 : (0 : Int) ≤ (k : Int) := by omega
      have i2 : (k : Int) < (n : Int) := by omega
      have HX := Lib.hid hx
      have hxs := HS.out x (List.mem_of_getElem? hx)
      clear hx
      go_wp2_with (go_at_call 31; refine (sclone_any _ _ hxs).mono ?_; rintro e w2 ⟨rfl, hb2⟩; obtain ⟨v0, hc0⟩ := (hO.keep hb2).cellAt hlt; have hf0 := (hO.keep hb2).free k)
      go_roundw
      case rel =>
        refine ⟨k + 1, by omega, by go_num, ?_, (bt hB hb2).setCell (p := ⟨w.heap.size, k, none⟩) (Nat.le_refl _) _⟩
        rw [← freshTo_set HX.out]
        exact (hO.keep hb2).set k x
      case measure => simp [intOf]; omega
    · have hq : ¬ (k : Int) < (n : Int) := by omega
      have hO2 : OwnS w.heap.size wr (some ⟨w.heap.size, 0, none⟩) n n l := by rw [freshTo_all l (k := k) (by have := HN.out; omega)] at hO; exact hO
      clear hO
      go_wp2_with fail
      go_ret
      exact ⟨⟨_, rfl, hO2⟩, hB⟩
end Go.Proofs.YtccdpbcldpmegaaDoor
