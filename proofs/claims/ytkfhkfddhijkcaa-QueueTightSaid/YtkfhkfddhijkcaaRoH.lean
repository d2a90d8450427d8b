/-
  WHAT IS PROVED: package stamp's Find and Tight. Conditions: those typed in each theorem.
-/
import Derived.Test.YtkfhkfddhijkcaaRoA
import Derived.Test.YtkfhkfddhijkcaaWrIx
import Derived.Test.YtkfhkfddhijkcaaGQ8
namespace Go.Proofs.Ytkfhkfddhijkcaa
open Go.RowKit

theorem en_spinney_stamp_Tight_1 : ∀ args w, (callFunc 76 args).run Try.prog w = .ok (.enter 76 args) w := enters_of Try.func76 (by kernel_rfl) rfl
theorem en_spinney_stamp_pairs : ∀ args w, (callFunc 75 args).run Try.prog w = .ok (.enter 75 args) w := enters_of Try.func75 (by kernel_rfl) rfl
theorem en_spinney_stamp_Tight : ∀ args w, (callFunc 21 args).run Try.prog w = .ok (.enter 21 args) w := enters_of Try.func21 (by kernel_rfl) rfl

/-- Has it this id? -/
def isId (d q : Int) (x : Wr) : Bool := x.dev == d && x.seq == q
def findGo (p : Wr → Bool) (i : Int) : List Wr → Int
  | [] => -1
  | x :: r => bif p x then i else findGo p (i + 1) r
theorem findGo_no (p : Wr → Bool) : ∀ (ws : List Wr) (i : Int), (∀ x, x ∈ ws → p x = false) → findGo p i ws = -1
  | [], _, _ => rfl
  | x :: r, i, h => by
    unfold findGo
    rw [h x (List.mem_cons_self ..)]
    exact findGo_no p r (i + 1) fun y hy => h y (List.mem_cons_of_mem _ hy)
theorem findGo_at (p : Wr → Bool) : ∀ (ws : List Wr) (i : Int) (k : Nat) (x : Wr), ws[k]? = some x → p x = true → (∀ y, y ∈ ws.take k → p y = false) → findGo p i ws = i + k
  | [], _, k, _, h, _, _ => by simp at h
  | a :: r, i, 0, x, h, hp, _ => by
    have e : a = x := by simpa using h
    unfold findGo
    rw [e, hp]
    show i = i + 0
    omega
  | a :: r, i, k + 1, x, h, hp, hn => by
    unfold findGo
    rw [hn a (by simp)]
    show findGo p (i + 1) r = _
    rw [findGo_at p r (i + 1) k x (by simpa using h) hp (fun y hy => hn y (by simp [hy]))]
    omega
def findZ (d q : Int) (ws : List Wr) : Int := findGo (isId d q) 0 ws
theorem eq_id (i j : Nat) (a c d q : Int) (W : World) : ((do eqGuard .eql 32 (.tmp i) (.tmp j) (.agg #[.int .i64 a, .int .i64 c]) (.agg #[.int .i64 d, .int .i64 q]); binOp .eql 32 (.agg #[.int .i64 a, .int .i64 c]) (.agg #[.int .i64 d, .int .i64 q])) : Sem Value).run Try.prog W = .ok (.bool (a == d && c == q)) W := by
  go_simp
  by_cases h1 : a = d <;> by_cases h2 : c = q <;> simp [h1, h2]
end Go.Proofs.Ytkfhkfddhijkcaa
