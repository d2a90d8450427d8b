/-
  WHAT IS PROVED: the closure of the statement PackApart tells whether two rows of bytes are the same, or neither begins the other (apB). Conditions: those typed in the theorem.
-/
import Derived.Test.YtahmjiomkaibgaaDoorApartMath
import Derived.Test.YtahmjiomkaibgaaDoorLawPackGoes
import Derived.Test.YtahmjiomkaibgaaDoorShelf
namespace Go.Proofs.YtahmjiomkaibgaaDoor
open Go.RowKit

theorem hasPre_is (s p : ByteArray) (w : World) (b : Bool) (hb : begB p.data.toList s.data.toList = b) :
    Calls Tryd.prog 42 #[.string s, .string p] w fun e w' => e = .returned (.bool b) ∧ w = w' := by
  subst hb
  exact (Tryd.strings_HasPrefix s p w).mono fun _ _ h => ⟨h.1, h.2.symm⟩

set_option maxHeartbeats 2000000 in
theorem apart_any (A A2 : Option Addr) (n c m d : Nat) (a b : List UInt8) (same : Bool) (w : World) (v : Bool) (hv : apB a b same = v) (hn : a.length = n) (hr : RdB w.heap.size w A a) (hm : b.length = m) (hr2 : RdB w.heap.size w A2 b) :
    Calls Tryd.prog 41 #[.slice A n c, .slice A2 m d, .bool same] w fun e w' => e = .returned (.bool v) ∧ Below w.heap.size w w' := by
  have q1 := conv_rd w A n c a hn hr
  have q2 := conv_rd w A2 m d b hm hr2
  clear hn hm hr hr2
  have ea : (⟨a.toArray⟩ : ByteArray).data.toList = a := rfl
  have eb : (⟨b.toArray⟩ : ByteArray).data.toList = b := rfl
  generalize (⟨a.toArray⟩ : ByteArray) = sa at q1 ea
  generalize (⟨b.toArray⟩ : ByteArray) = sb at q2 eb
  cases same with
  | true =>
    have R : Hid ((sa.toList == sb.toList) = v) := by
      show _ = _
      rw [ByteArray.toList_eq, ByteArray.toList_eq, ea, eb, ← hv]
      rfl
    clear hv ea eb
    go_enter Tryd.func41, Tryd.ntmps41
    go_wp2_with fail
    go_ret
    exact ⟨ret_bool R.out, Below.refl _ _⟩
  | false =>
    have hv2 : (!begB b a && !begB a b) = v := hv
    cases hb : begB b a with
    | true =>
      rw [hb] at hv2
      have HB : Hid (begB sb.data.toList sa.data.toList = true) := by show _ = _; rw [ea, eb]; exact hb
      have R : Hid (false = v) := hv2
      clear hv hv2 ea eb hb
      go_enter Tryd.func41, Tryd.ntmps41
      go_wp2_with (go_at_call 42; with_reducible refine (hasPre_is _ _ _ true HB.out).mono ?_; rintro e w2 ⟨rfl, rfl⟩)
      go_ret
      exact ⟨ret_bool R.out, Below.refl _ _⟩
    | false =>
      rw [hb] at hv2
      have HB : Hid (begB sb.data.toList sa.data.toList = false) := by show _ = _; rw [ea, eb]; exact hb
      cases hc : begB a b with
      | true =>
        rw [hc] at hv2
        have HC : Hid (begB sa.data.toList sb.data.toList = true) := by show _ = _; rw [ea, eb]; exact hc
        have R : Hid (false = v) := hv2
        clear hv hv2 ea eb hb hc
        go_enter Tryd.func41, Tryd.ntmps41
        go_wp2_with first
          | (go_at_call 42; with_reducible refine (hasPre_is _ _ _ false HB.out).mono ?_; rintro e w2 ⟨rfl, rfl⟩)
          | (go_at_call 42; with_reducible refine (hasPre_is _ _ _ true HC.out).mono ?_; rintro e w2 ⟨rfl, rfl⟩)
        go_ret
        exact ⟨ret_bool R.out, Below.refl _ _⟩
      | false =>
        rw [hc] at hv2
        have HC : Hid (begB sa.data.toList sb.data.toList = false) := by show _ = _; rw [ea, eb]; exact hc
        have R : Hid (true = v) := hv2
        clear hv hv2 ea eb hb hc
        go_enter Tryd.func41, Tryd.ntmps41
        go_wp2_with first
          | (go_at_call 42; with_reducible refine (hasPre_is _ _ _ false HB.out).mono ?_; rintro e w2 ⟨rfl, rfl⟩)
          | (go_at_call 42; with_reducible refine (hasPre_is _ _ _ false HC.out).mono ?_; rintro e w2 ⟨rfl, rfl⟩)
        go_ret
        exact ⟨ret_bool R.out, Below.refl _ _⟩
end Go.Proofs.YtahmjiomkaibgaaDoor
