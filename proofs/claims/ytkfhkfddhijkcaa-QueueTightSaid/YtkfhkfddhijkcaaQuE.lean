/-
  WHAT IS PROVED: the fixed fact of chapter 14's law; plain words for it. Conditions: those typed in each theorem.
-/
import Derived.Test.YtkfhkfddhijkcaaQuD
namespace Go.Proofs.Ytkfhkfddhijkcaa
open Go.RowKit

theorem QTook.fail {q : Nat} {room : Int} {A : Option Addr} {n c : Nat} {ws : List Wr} {x : Wr} {code : Int} {w w' : World} (h : QTook q room A n c ws x code w w') (hc : code ≠ 0) : QuW w' q room A n c ws ∧ Below w.heap.size w w' := by
  rcases h with ⟨_, h2, h3⟩ | ⟨h1, _⟩
  · exact ⟨h2, h3⟩
  · exact absurd h1 hc
theorem QTook.ok {q : Nat} {room : Int} {A : Option Addr} {n c : Nat} {ws : List Wr} {x : Wr} {code : Int} {w w' : World} (h : QTook q room A n c ws x code w w') (hc : code = 0) : ∃ A' n' c', QuW w' q room A' n' c' (ws ++ [x]) ∧ QuK q A w w' ∧ (A'.map (·.block) = A.map (·.block) ∨ ∀ a, A' = some a → w.heap.size ≤ a.block) := by
  rcases h with ⟨h1, _⟩ | ⟨_, h2⟩
  · exact absurd hc h1
  · exact h2
theorem QuK.keep {q : Nat} {room : Int} {A : Option Addr} {n c : Nat} {ws : List Wr} {w w' : World} (h : QuK q A w w') (hQ : QuW w q room A n c ws) {p : Nat} {cs : Array Value} {T : TypeId} (hX : Blk w p cs T) (hq : p ≠ q) (hT : T ≠ tWr) : Blk w' p cs T := h.blk hX hq (own_ne hQ.own hX hT)
theorem lt_ne : (29 : TypeId) ≠ tWr := by decide
theorem mxI_up (j : Nat) (B : Int) (ws : List Wr) : ∀ m : Int, m ≤ B → (∀ x, x ∈ ws → x.seq ≤ B) → mxI j m ws ≤ B := by
  induction ws with
  | nil => intro m h _; exact h
  | cons x r ih =>
    intro m hm h
    show mxI j (if x.dev = (j : Int) then max m x.seq else m) r ≤ B
    have := h x (List.mem_cons_self ..)
    refine ih _ ?_ fun y hy => h y (List.mem_cons_of_mem _ hy)
    split <;> omega
theorem ofL_sml {l : List Int} (hl : Sml l) {ws : List Wr} (h : ∀ x, x ∈ ws → x.seq ≤ 1000) : Sml (ofL l ws) := by
  refine ⟨ofL_len hl.1 ws, fun j => ?_⟩
  by_cases hj : j < 12
  · rw [gI_ofL hj ws l hl.1]
    have h1 := mxI_le j ws (gI l j)
    have h2 := mxI_up j 1000 ws (gI l j) (hl.2 j).2 h
    have := (hl.2 j).1
    omega
  · rw [gI_out (ofL_len hl.1 ws) hj]
    exact ⟨Int.le_refl _, by decide⟩
theorem mxI_other (j : Nat) (ws : List Wr) : ∀ m : Int, (∀ x, x ∈ ws → x.dev ≠ (j : Int)) → mxI j m ws = m := by
  induction ws with
  | nil => intro m _; rfl
  | cons x r ih =>
    intro m h
    show mxI j (if x.dev = (j : Int) then max m x.seq else m) r = m
    rw [if_neg (h x (List.mem_cons_self ..))]
    exact ih m fun y hy => h y (List.mem_cons_of_mem _ hy)
theorem zL_sml : Sml zL := ⟨rfl, fun j => by rw [zL_gI]; exact ⟨Int.le_refl _, by decide⟩⟩
theorem takeI_of {room : Int} {l : List Int} {ws : List Wr} {x : Wr} {a : Int} (h : askI (ofL l ws) x.dev x.seq = a) (h0 : a ≠ 0) : takeI room l ws x = a := by unfold takeI; rw [h, if_neg h0]
theorem takeI_full {room : Int} {l : List Int} {ws : List Wr} {x : Wr} (h : askI (ofL l ws) x.dev x.seq = 0) (hr : room ≤ (ws.length : Int)) : takeI room l ws x = 3 := by unfold takeI; rw [h, if_pos rfl, if_pos hr]
theorem takeI_ok {room : Int} {l : List Int} {ws : List Wr} {x : Wr} (h : askI (ofL l ws) x.dev x.seq = 0) (hr : ¬ room ≤ (ws.length : Int)) : takeI room l ws x = 0 := by unfold takeI; rw [h, if_pos rfl, if_neg hr]
theorem alLa (w : World) : (Instr.alloc 29 true (.tuple #[])).run Try.prog w = .ok (.pointer (some ⟨w.heap.size, 0, none⟩)) (w.alloc (.cells (liA zL) 29)) := by kernel_rfl
theorem bdLa0 (w : World) : (Instr.build 29 #[]).run Try.prog w = .ok (.agg (liA zL)) w := by kernel_rfl
abbrev oneL : List Int := laL 0 1 0 0 0 0 0 0 0 0 0 0
theorem bdLa1 (w : World) : (Instr.build 29 #[(1, .int .i64 1)]).run Try.prog w = .ok (.agg (liA oneL)) w := by kernel_rfl
theorem oneL_gI (j : Nat) : gI oneL j = if j = 1 then 1 else 0 := by
  by_cases h : j < 12
  · have hc : j = 0 ∨ j = 1 ∨ j = 2 ∨ j = 3 ∨ j = 4 ∨ j = 5 ∨ j = 6 ∨ j = 7 ∨ j = 8 ∨ j = 9 ∨ j = 10 ∨ j = 11 := by omega
    rcases hc with rfl | rfl | rfl | rfl | rfl | rfl | rfl | rfl | rfl | rfl | rfl | rfl <;> rfl
  · unfold gI
    rw [List.getElem?_eq_none (by show 12 ≤ j; omega), if_neg (by omega)]
    rfl
theorem oneL_sml : Sml oneL := ⟨rfl, fun j => by rw [oneL_gI]; split <;> decide⟩
end Go.Proofs.Ytkfhkfddhijkcaa
