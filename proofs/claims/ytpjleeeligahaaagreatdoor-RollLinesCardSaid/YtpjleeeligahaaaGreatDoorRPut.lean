/-
  WHAT IS PROVED: package roll's calls that put lists behind other bytes (putAll, putList of each kind of element): the document's bytes, behind what was handed in, which stays. Conditions: those typed in each theorem.
-/
import Derived.Test.YtpjleeeligahaaaGreatDoorGQ9
import Derived.Test.YtpjleeeligahaaaGreatDoorPackPutY
namespace Go.Proofs.YtpjleeeligahaaaGreatDoor
open Go.RowKit

abbrev strC (x : ByteArray) : Array Value := #[.string x]
abbrev intC (x : Int) : Array Value := #[.int .i64 x]
abbrev clV (x : Cl) : Value := .agg x.cells
abbrev lnV (x : Ln) : Value := .agg x.cells
/-- A call's answer: a row of bytes of the call's own. -/
def PutX (base : Nat) (w : World) (L : List UInt8) (e : Ending) (w' : World) : Prop := (∃ (A : Option Addr) (n c : Nat), e = .returned (.slice A n c) ∧ OwnB base w' A n c L) ∧ Below base w w'
set_option maxRecDepth 100000 in
theorem packNumberO_any (A : Option Addr) (n c : Nat) (l : List UInt8) (x : Nat) (w : World) (hl : l.length = n) (hn : n ≤ 1000000) (hr : RdB w.heap.size w A l) (hc : n ≤ c) (hx : x < 18446744073709551616) :
    Calls Tryz.prog 62 #[.slice A n c, .int .u64 x] w fun e w' => PutX w.heap.size w (l ++ numB x) e w' := by
  go_enter Tryz.func62, Tryz.ntmps62
  go_wp2_with fail
  refine (own_any A n c w hc).mono ?_
  rintro e w1 ⟨rfl, rfl⟩
  go_wp2_with fail
  refine (putNumber_any w1.heap.size A n n l x w1 (preB_of hl hn hr) (Nat.le_refl _) (by omega) hx).mono ?_
  rintro e w2 ⟨⟨A2, n2, c2, rfl, hO2⟩, hb2, -⟩
  go_wp2_with fail
  go_ret
  exact ⟨⟨A2, n2, c2, rfl, hO2⟩, hb2⟩
/-- A function value that answers each of these as bytes. -/
def PutsF {α : Type} (g : Nat) (arg : α → Value) (E : α → List UInt8) (l : List α) : Prop := ∀ x, x ∈ l → ∀ W, Calls Tryz.prog g #[arg x] W fun e W' => PutR W (E x) e W'
theorem map_get {α β : Type} {f : α → β} {l : List α} {k : Nat} {x : α} (h : l[k]? = some x) : (l.map f)[k]? = some (f x) := by rw [List.getElem?_map, h]; rfl
theorem take_flat {α : Type} {E : α → List UInt8} {L : List UInt8} {l : List α} {k : Nat} {x : α} (h : l[k]? = some x) : L ++ (l.take k).flatMap E ++ E x = L ++ (l.take (k + 1)).flatMap E := by
  rw [List.take_add_one, h]
  simp
theorem PreB.own {base : Nat} {W : World} {A : Option Addr} {n c : Nat} {l : List UInt8} (h : OwnB base W A n c l) : PreB base W A n c l := .inl h

set_option maxRecDepth 100000 in
set_option maxHeartbeats 4000000 in
theorem putAllS_any (base g : Nat) (E : ByteArray → List UInt8) (eg : ∀ args w, (callFunc g args).run Tryz.prog w = .ok (.enter g args) w) (A A2 : Option Addr) (n c m d : Nat) (L : List UInt8) (l : List ByteArray) (w : World) (hp : PreB base w A n c L) (ho : OwnB base w A n c L ∨ 0 < m) (hb : base ≤ w.heap.size) (hn : n ≤ 1000009)
    (hm : l.length = m) (hm1 : m ≤ 100000) (hr : RdX 1 base w A2 (l.map strC)) (hE : ∀ x, x ∈ l → 0 < (E x).length ∧ (E x).length ≤ 5000000) (hg : PutsF g Value.string E l) :
    Calls Tryz.prog 107 #[.slice A n c, .slice A2 m d, .func (.func g) #[] #[]] w fun e w' => PutX base w (L ++ l.flatMap E) e w' := by
  obtain ⟨i0, hi0, hz0, hz1, hz2⟩ := info_parts byt_info
  have HN := Lib.hid hm
  have HR := Lib.hid (fun W (h : Below base w W) => hr.keep (W' := W) h (Nat.le_refl _))
  have HF := Lib.hid hg
  have HO := Lib.hid ho
  clear hm hr hg ho
  go_enter Tryz.func107, Tryz.ntmps107
  go_wp2_with fail
  go_loopw [0, 8, 11] (fun b _ i wr => ∃ (k : Nat) (A3 : Option Addr) (n3 c3 : Nat), k ≤ m ∧ i = .int .i64 k ∧ b = .slice A3 n3 c3 ∧ n3 ≤ 1000009 + 5000000 * k ∧ PreB base wr A3 n3 c3 (L ++ (l.take k).flatMap E) ∧ Hid (OwnB base w A n c L ∨ 0 < k → OwnB base wr A3 n3 c3 (L ++ (l.take k).flatMap E)) ∧ Below base w wr) (fun _ _ i _ => m - (intOf i).toNat)
  case atStart => exact ⟨0, A, n, c, Nat.zero_le _, rfl, rfl, by omega, by simpa using hp, fun h => by simpa using h.resolve_right (by omega), Below.refl _ _⟩
  case round =>
    clear hp
    obtain ⟨k, A3, n3, d3, hk, rfl, rfl, hn3, hP, hO, hW⟩ := hrel
    by_cases hlt : k < m
    · obtain ⟨x, hx⟩ : ∃ x, l[k]? = some x := ⟨_, List.getElem?_eq_getElem (show k < l.length by have := HN.out; omega)⟩
      obtain ⟨ad, rfl, _, hc⟩ := HR.out wr hW k _ (map_get hx)
      have i1 : (0 : Int) ≤ (k : Int) := by omega
      have i2 : (k : Int) < (m : Int) := by omega
      obtain ⟨e1, e2⟩ := hE x (List.mem_of_getElem? hx)
      have HG := Lib.hid (HF.out x (List.mem_of_getElem? hx))
      have HE := Lib.hid (take_flat (E := E) (L := L) hx)
      clear hx hO
      have q0 : wr.cell? (ad.add k) = some (.string x) := by have := hc 0 _ rfl; simpa using this
      clear hc
      have hP2 := hP
      have hW2 := hW
      have hz := hW2.size
      go_wp2_with first
        | (go_at_fn g; refine (HG.out _).mono ?_; rintro e w2 ⟨⟨A4, n4, c4, rfl, hl4, hr4, hc4⟩, hb4⟩)
        | (at_builtin; refine wpList_apP (base := base) (n := n3) (m := n4) (l := L ++ (l.take k).flatMap E) (l2 := E x) (by rfl) _ _ (by rfl) Tryz.underlying23 Tryz.underlying23 hi0 hz0 hz1 hz2 (by rfl) (by rfl) (hP2.keep hb4) hr4 hl4 (by omega) (n3 + n4) rfl (by omega) (Nat.le_trans (Nat.le_trans hb hz) hb4.size) ?_; intro A5 c5 w5 hO5 hb5 _)
      rw [HE.out] at hO5
      have hW5 := (hW2.trans (hb4.mono (Nat.le_trans hb hz))).trans hb5
      go_roundw
      case rel => exact ⟨k + 1, A5, n3 + n4, c5, by omega, by go_num, rfl, by omega, .inl hO5, fun _ => hO5, hW5⟩
      case measure => simp [intOf]; omega
    · have hq : ¬ (k : Int) < (m : Int) := by omega
      have hE2 : L ++ (l.take k).flatMap E = L ++ l.flatMap E := by rw [List.take_of_length_le (by have := HN.out; omega)]
      have hO2 := hO.out (HO.out.imp id fun h => by omega)
      rw [hE2] at hO2
      clear hP hO hE2
      go_wp2_with fail
      go_ret
      exact ⟨⟨A3, n3, d3, rfl, hO2⟩, hW⟩

set_option maxRecDepth 100000 in
set_option maxHeartbeats 2000000 in
theorem putListS_any (g : Nat) (E : ByteArray → List UInt8) (eg : ∀ args w, (callFunc g args).run Tryz.prog w = .ok (.enter g args) w) (A A2 : Option Addr) (n c m d : Nat) (L : List UInt8) (l : List ByteArray) (w : World) (hl : L.length = n) (hn : n ≤ 1000000) (hc : n ≤ c) (hr : RdB w.heap.size w A L)
    (hm : l.length = m) (hm1 : m ≤ 100000) (hr2 : RdX 1 w.heap.size w A2 (l.map strC)) (hE : ∀ x, x ∈ l → 0 < (E x).length ∧ (E x).length ≤ 5000000) (hg : PutsF g Value.string E l) :
    Calls Tryz.prog 53 #[.slice A n c, .slice A2 m d, .func (.func g) #[] #[]] w fun e w' => PutX w.heap.size w (L ++ (numB m ++ l.flatMap E)) e w' := by
  have wn : IntKind.u64.wrap (m : Int) = (m : Int) := wrap_size (by omega)
  have HN := Lib.hid hm
  have HL := Lib.hid hl
  go_enter Tryz.func53, Tryz.ntmps53
  go_wp2_with fail
  refine (packNumberO_any A n c L m w hl hn hr hc (by omega)).mono ?_
  rintro e w1 ⟨⟨A1, n1, c1, rfl, hO1⟩, hb1⟩
  have hn1 := put_len hO1 hl (numB_small (n := m) (by omega))
  go_wp2_with fail
  refine (putAllS_any w.heap.size g E eg A1 A2 n1 c1 m d (L ++ numB m) l w1 (.inl hO1) (.inl hO1) hb1.size (by omega) HN.out hm1 (hr2.keep hb1 (Nat.le_refl _)) hE hg).mono ?_
  rintro e w2 ⟨⟨A4, n4, c4, rfl, hO4⟩, hb4⟩
  rw [List.append_assoc] at hO4
  go_wp2_with fail
  go_ret
  exact ⟨⟨A4, n4, c4, rfl, hO4⟩, hb1.trans hb4⟩

set_option maxRecDepth 100000 in
set_option maxHeartbeats 4000000 in
theorem putAllI_any (base g : Nat) (E : Int → List UInt8) (eg : ∀ args w, (callFunc g args).run Tryz.prog w = .ok (.enter g args) w) (A A2 : Option Addr) (n c m d : Nat) (L : List UInt8) (l : List Int) (w : World) (hp : PreB base w A n c L) (ho : OwnB base w A n c L ∨ 0 < m) (hb : base ≤ w.heap.size) (hn : n ≤ 1000009)
    (hm : l.length = m) (hm1 : m ≤ 100000) (hr : RdX 1 base w A2 (l.map intC)) (hE : ∀ x, x ∈ l → 0 < (E x).length ∧ (E x).length ≤ 5000000) (hg : PutsF g (Value.int .i64) E l) :
    Calls Tryz.prog 143 #[.slice A n c, .slice A2 m d, .func (.func g) #[] #[]] w fun e w' => PutX base w (L ++ l.flatMap E) e w' := by
  obtain ⟨i0, hi0, hz0, hz1, hz2⟩ := info_parts byt_info
  have HN := Lib.hid hm
  have HR := Lib.hid (fun W (h : Below base w W) => hr.keep (W' := W) h (Nat.le_refl _))
  have HF := Lib.hid hg
  have HO := Lib.hid ho
  clear hm hr hg ho
  go_enter Tryz.func143, Tryz.ntmps143
  go_wp2_with fail
  go_loopw [0, 8, 11] (fun b _ i wr => ∃ (k : Nat) (A3 : Option Addr) (n3 c3 : Nat), k ≤ m ∧ i = .int .i64 k ∧ b = .slice A3 n3 c3 ∧ n3 ≤ 1000009 + 5000000 * k ∧ PreB base wr A3 n3 c3 (L ++ (l.take k).flatMap E) ∧ Hid (OwnB base w A n c L ∨ 0 < k → OwnB base wr A3 n3 c3 (L ++ (l.take k).flatMap E)) ∧ Below base w wr) (fun _ _ i _ => m - (intOf i).toNat)
  case atStart => exact ⟨0, A, n, c, Nat.zero_le _, rfl, rfl, by omega, by simpa using hp, fun h => by simpa using h.resolve_right (by omega), Below.refl _ _⟩
  case round =>
    clear hp
    obtain ⟨k, A3, n3, d3, hk, rfl, rfl, hn3, hP, hO, hW⟩ := hrel
    by_cases hlt : k < m
    · obtain ⟨x, hx⟩ : ∃ x, l[k]? = some x := ⟨_, List.getElem?_eq_getElem (show k < l.length by have := HN.out; omega)⟩
      obtain ⟨ad, rfl, _, hc⟩ := HR.out wr hW k _ (map_get hx)
      have i1 : (0 : Int) ≤ (k : Int) := by omega
      have i2 : (k : Int) < (m : Int) := by omega
      obtain ⟨e1, e2⟩ := hE x (List.mem_of_getElem? hx)
      have HG := Lib.hid (HF.out x (List.mem_of_getElem? hx))
      have HE := Lib.hid (take_flat (E := E) (L := L) hx)
      clear hx hO
      have q0 : wr.cell? (ad.add k) = some (.int .i64 x) := by have := hc 0 _ rfl; simpa using this
      clear hc
      have hP2 := hP
      have hW2 := hW
      have hz := hW2.size
      go_wp2_with first
        | (go_at_fn g; refine (HG.out _).mono ?_; rintro e w2 ⟨⟨A4, n4, c4, rfl, hl4, hr4, hc4⟩, hb4⟩)
        | (at_builtin; refine wpList_apP (base := base) (n := n3) (m := n4) (l := L ++ (l.take k).flatMap E) (l2 := E x) (by rfl) _ _ (by rfl) Tryz.underlying23 Tryz.underlying23 hi0 hz0 hz1 hz2 (by rfl) (by rfl) (hP2.keep hb4) hr4 hl4 (by omega) (n3 + n4) rfl (by omega) (Nat.le_trans (Nat.le_trans hb hz) hb4.size) ?_; intro A5 c5 w5 hO5 hb5 _)
      rw [HE.out] at hO5
      have hW5 := (hW2.trans (hb4.mono (Nat.le_trans hb hz))).trans hb5
      go_roundw
      case rel => exact ⟨k + 1, A5, n3 + n4, c5, by omega, by go_num, rfl, by omega, .inl hO5, fun _ => hO5, hW5⟩
      case measure => simp [intOf]; omega
    · have hq : ¬ (k : Int) < (m : Int) := by omega
      have hE2 : L ++ (l.take k).flatMap E = L ++ l.flatMap E := by rw [List.take_of_length_le (by have := HN.out; omega)]
      have hO2 := hO.out (HO.out.imp id fun h => by omega)
      rw [hE2] at hO2
      clear hP hO hE2
      go_wp2_with fail
      go_ret
      exact ⟨⟨A3, n3, d3, rfl, hO2⟩, hW⟩

set_option maxRecDepth 100000 in
set_option maxHeartbeats 4000000 in
theorem putAllC_any (base g : Nat) (E : Cl → List UInt8) (eg : ∀ args w, (callFunc g args).run Tryz.prog w = .ok (.enter g args) w) (A A2 : Option Addr) (n c m d : Nat) (L : List UInt8) (l : List Cl) (w : World) (hp : PreB base w A n c L) (ho : OwnB base w A n c L ∨ 0 < m) (hb : base ≤ w.heap.size) (hn : n ≤ 1000009)
    (hm : l.length = m) (hm1 : m ≤ 100000) (hr : RdX 4 base w A2 (l.map Cl.cells)) (hE : ∀ x, x ∈ l → 0 < (E x).length ∧ (E x).length ≤ 5000000) (hg : PutsF g clV E l) :
    Calls Tryz.prog 109 #[.slice A n c, .slice A2 m d, .func (.func g) #[] #[]] w fun e w' => PutX base w (L ++ l.flatMap E) e w' := by
  obtain ⟨i0, hi0, hz0, hz1, hz2⟩ := info_parts byt_info
  have HN := Lib.hid hm
  have HR := Lib.hid (fun W (h : Below base w W) => hr.keep (W' := W) h (Nat.le_refl _))
  have HF := Lib.hid hg
  have HO := Lib.hid ho
  clear hm hr hg ho
  go_enter Tryz.func109, Tryz.ntmps109
  go_wp2_with fail
  go_loopw [0, 11] (fun b i wr => ∃ (k : Nat) (A3 : Option Addr) (n3 c3 : Nat), k ≤ m ∧ i = .int .i64 k ∧ b = .slice A3 n3 c3 ∧ n3 ≤ 1000009 + 5000000 * k ∧ PreB base wr A3 n3 c3 (L ++ (l.take k).flatMap E) ∧ Hid (OwnB base w A n c L ∨ 0 < k → OwnB base wr A3 n3 c3 (L ++ (l.take k).flatMap E)) ∧ Below base w wr) (fun _ i _ => m - (intOf i).toNat)
  case atStart => exact ⟨0, A, n, c, Nat.zero_le _, rfl, rfl, by omega, by simpa using hp, fun h => by simpa using h.resolve_right (by omega), Below.refl _ _⟩
  case round =>
    clear hp
    obtain ⟨k, A3, n3, d3, hk, rfl, rfl, hn3, hP, hO, hW⟩ := hrel
    by_cases hlt : k < m
    · obtain ⟨x, hx⟩ : ∃ x, l[k]? = some x := ⟨_, List.getElem?_eq_getElem (show k < l.length by have := HN.out; omega)⟩
      obtain ⟨ad, rfl, _, hc⟩ := HR.out wr hW k _ (map_get hx)
      have i1 : (0 : Int) ≤ (k : Int) := by omega
      have i2 : (k : Int) < (m : Int) := by omega
      obtain ⟨e1, e2⟩ := hE x (List.mem_of_getElem? hx)
      have HG := Lib.hid (HF.out x (List.mem_of_getElem? hx))
      have HE := Lib.hid (take_flat (E := E) (L := L) hx)
      clear hx hO
      have q0 : wr.cell? (ad.add (k * 4)) = some (.string x.ky) := (celX hc).1 _ rfl
      have q1 : wr.cell? ⟨(ad.add (k * 4)).block, (ad.add (k * 4)).off + 1, none⟩ = some (.int .i64 x.k) := (celX hc).2 0 _ rfl
      have q2 : wr.cell? ⟨(ad.add (k * 4)).block, (ad.add (k * 4)).off + 2, none⟩ = some (.int .i64 x.x) := (celX hc).2 1 _ rfl
      have q3 : wr.cell? ⟨(ad.add (k * 4)).block, (ad.add (k * 4)).off + 3, none⟩ = some (.string x.s) := (celX hc).2 2 _ rfl
      clear hc
      have hP2 := hP.keep (b0 wr (.cells x.cells 61))
      have hW2 := hW.alloc (Nat.le_trans hb hW.size) (.cells x.cells 61)
      have hz := hW2.size
      go_wp2_with first
        | (go_at_fn g; refine (HG.out _).mono ?_; rintro e w2 ⟨⟨A4, n4, c4, rfl, hl4, hr4, hc4⟩, hb4⟩)
        | (at_builtin; refine wpList_apP (base := base) (n := n3) (m := n4) (l := L ++ (l.take k).flatMap E) (l2 := E x) (by rfl) _ _ (by rfl) Tryz.underlying23 Tryz.underlying23 hi0 hz0 hz1 hz2 (by rfl) (by rfl) (hP2.keep hb4) hr4 hl4 (by omega) (n3 + n4) rfl (by omega) (Nat.le_trans (Nat.le_trans hb hz) hb4.size) ?_; intro A5 c5 w5 hO5 hb5 _)
      rw [HE.out] at hO5
      have hW5 := (hW2.trans (hb4.mono (Nat.le_trans hb hz))).trans hb5
      go_roundw
      case rel => exact ⟨k + 1, A5, n3 + n4, c5, by omega, by go_num, rfl, by omega, .inl hO5, fun _ => hO5, hW5⟩
      case measure => simp [intOf]; omega
    · have hq : ¬ (k : Int) < (m : Int) := by omega
      have hE2 : L ++ (l.take k).flatMap E = L ++ l.flatMap E := by rw [List.take_of_length_le (by have := HN.out; omega)]
      have hO2 := hO.out (HO.out.imp id fun h => by omega)
      rw [hE2] at hO2
      clear hP hO hE2
      go_wp2_with fail
      go_ret
      exact ⟨⟨A3, n3, d3, rfl, hO2⟩, hW⟩

set_option maxRecDepth 100000 in
set_option maxHeartbeats 2000000 in
theorem putListC_any (g : Nat) (E : Cl → List UInt8) (eg : ∀ args w, (callFunc g args).run Tryz.prog w = .ok (.enter g args) w) (A A2 : Option Addr) (n c m d : Nat) (L : List UInt8) (l : List Cl) (w : World) (hl : L.length = n) (hn : n ≤ 1000000) (hc : n ≤ c) (hr : RdB w.heap.size w A L)
    (hm : l.length = m) (hm1 : m ≤ 100000) (hr2 : RdX 4 w.heap.size w A2 (l.map Cl.cells)) (hE : ∀ x, x ∈ l → 0 < (E x).length ∧ (E x).length ≤ 5000000) (hg : PutsF g clV E l) :
    Calls Tryz.prog 56 #[.slice A n c, .slice A2 m d, .func (.func g) #[] #[]] w fun e w' => PutX w.heap.size w (L ++ (numB m ++ l.flatMap E)) e w' := by
  have wn : IntKind.u64.wrap (m : Int) = (m : Int) := wrap_size (by omega)
  have HN := Lib.hid hm
  have HL := Lib.hid hl
  go_enter Tryz.func56, Tryz.ntmps56
  go_wp2_with fail
  refine (packNumberO_any A n c L m w hl hn hr hc (by omega)).mono ?_
  rintro e w1 ⟨⟨A1, n1, c1, rfl, hO1⟩, hb1⟩
  have hn1 := put_len hO1 hl (numB_small (n := m) (by omega))
  go_wp2_with fail
  refine (putAllC_any w.heap.size g E eg A1 A2 n1 c1 m d (L ++ numB m) l w1 (.inl hO1) (.inl hO1) hb1.size (by omega) HN.out hm1 (hr2.keep hb1 (Nat.le_refl _)) hE hg).mono ?_
  rintro e w2 ⟨⟨A4, n4, c4, rfl, hO4⟩, hb4⟩
  rw [List.append_assoc] at hO4
  go_wp2_with fail
  go_ret
  exact ⟨⟨A4, n4, c4, rfl, hO4⟩, hb1.trans hb4⟩

set_option maxRecDepth 100000 in
set_option maxHeartbeats 4000000 in
theorem putAllL_any (base g : Nat) (E : Ln → List UInt8) (eg : ∀ args w, (callFunc g args).run Tryz.prog w = .ok (.enter g args) w) (A A2 : Option Addr) (n c m d : Nat) (L : List UInt8) (l : List Ln) (w : World) (hp : PreB base w A n c L) (ho : OwnB base w A n c L ∨ 0 < m) (hb : base ≤ w.heap.size) (hn : n ≤ 1000009)
    (hm : l.length = m) (hm1 : m ≤ 100000) (hr : RdX 11 base w A2 (l.map Ln.cells)) (hE : ∀ x, x ∈ l → 0 < (E x).length ∧ (E x).length ≤ 5000000) (hg : PutsF g lnV E l) :
    Calls Tryz.prog 61 #[.slice A n c, .slice A2 m d, .func (.func g) #[] #[]] w fun e w' => PutX base w (L ++ l.flatMap E) e w' := by
  obtain ⟨i0, hi0, hz0, hz1, hz2⟩ := info_parts byt_info
  have HN := Lib.hid hm
  have HR := Lib.hid (fun W (h : Below base w W) => hr.keep (W' := W) h (Nat.le_refl _))
  have HF := Lib.hid hg
  have HO := Lib.hid ho
  clear hm hr hg ho
  go_enter Tryz.func61, Tryz.ntmps61
  go_wp2_with fail
  go_loopw [0, 11] (fun b i wr => ∃ (k : Nat) (A3 : Option Addr) (n3 c3 : Nat), k ≤ m ∧ i = .int .i64 k ∧ b = .slice A3 n3 c3 ∧ n3 ≤ 1000009 + 5000000 * k ∧ PreB base wr A3 n3 c3 (L ++ (l.take k).flatMap E) ∧ Hid (OwnB base w A n c L ∨ 0 < k → OwnB base wr A3 n3 c3 (L ++ (l.take k).flatMap E)) ∧ Below base w wr) (fun _ i _ => m - (intOf i).toNat)
  case atStart => exact ⟨0, A, n, c, Nat.zero_le _, rfl, rfl, by omega, by simpa using hp, fun h => by simpa using h.resolve_right (by omega), Below.refl _ _⟩
  case round =>
    clear hp
    obtain ⟨k, A3, n3, d3, hk, rfl, rfl, hn3, hP, hO, hW⟩ := hrel
    by_cases hlt : k < m
    · obtain ⟨x, hx⟩ : ∃ x, l[k]? = some x := ⟨_, List.getElem?_eq_getElem (show k < l.length by have := HN.out; omega)⟩
      obtain ⟨ad, rfl, _, hc⟩ := HR.out wr hW k _ (map_get hx)
      have i1 : (0 : Int) ≤ (k : Int) := by omega
      have i2 : (k : Int) < (m : Int) := by omega
      obtain ⟨e1, e2⟩ := hE x (List.mem_of_getElem? hx)
      have HG := Lib.hid (HF.out x (List.mem_of_getElem? hx))
      have HE := Lib.hid (take_flat (E := E) (L := L) hx)
      clear hx hO
      have q0 : wr.cell? (ad.add (k * 11)) = some (.int .i64 x.pl) := (celX hc).1 _ rfl
      have q1 : wr.cell? ⟨(ad.add (k * 11)).block, (ad.add (k * 11)).off + 1, none⟩ = some (.int .i64 x.w.dev) := (celX hc).2 0 _ rfl
      have q2 : wr.cell? ⟨(ad.add (k * 11)).block, (ad.add (k * 11)).off + 2, none⟩ = some (.int .i64 x.w.seq) := (celX hc).2 1 _ rfl
      have q3 : wr.cell? ⟨(ad.add (k * 11)).block, (ad.add (k * 11)).off + 3, none⟩ = some (.int .i64 x.w.K) := (celX hc).2 2 _ rfl
      have q4 : wr.cell? ⟨(ad.add (k * 11)).block, (ad.add (k * 11)).off + 4, none⟩ = some (.string x.w.ky) := (celX hc).2 3 _ rfl
      have q5 : wr.cell? ⟨(ad.add (k * 11)).block, (ad.add (k * 11)).off + 5, none⟩ = some (.int .i64 x.w.ka) := (celX hc).2 4 _ rfl
      have q6 : wr.cell? ⟨(ad.add (k * 11)).block, (ad.add (k * 11)).off + 6, none⟩ = some (.int .i64 x.w.na) := (celX hc).2 5 _ rfl
      have q7 : wr.cell? ⟨(ad.add (k * 11)).block, (ad.add (k * 11)).off + 7, none⟩ = some (.string x.w.sa) := (celX hc).2 6 _ rfl
      have q8 : wr.cell? ⟨(ad.add (k * 11)).block, (ad.add (k * 11)).off + 8, none⟩ = some (.int .i64 x.w.kb) := (celX hc).2 7 _ rfl
      have q9 : wr.cell? ⟨(ad.add (k * 11)).block, (ad.add (k * 11)).off + 9, none⟩ = some (.int .i64 x.w.nb) := (celX hc).2 8 _ rfl
      have q10 : wr.cell? ⟨(ad.add (k * 11)).block, (ad.add (k * 11)).off + 10, none⟩ = some (.string x.w.sb) := (celX hc).2 9 _ rfl
      clear hc
      have hP2 := hP.keep (b0 wr (.cells x.cells 49))
      have hW2 := hW.alloc (Nat.le_trans hb hW.size) (.cells x.cells 49)
      have hz := hW2.size
      go_wp2_with first
        | (go_at_fn g; refine (HG.out _).mono ?_; rintro e w2 ⟨⟨A4, n4, c4, rfl, hl4, hr4, hc4⟩, hb4⟩)
        | (at_builtin; refine wpList_apP (base := base) (n := n3) (m := n4) (l := L ++ (l.take k).flatMap E) (l2 := E x) (by rfl) _ _ (by rfl) Tryz.underlying23 Tryz.underlying23 hi0 hz0 hz1 hz2 (by rfl) (by rfl) (hP2.keep hb4) hr4 hl4 (by omega) (n3 + n4) rfl (by omega) (Nat.le_trans (Nat.le_trans hb hz) hb4.size) ?_; intro A5 c5 w5 hO5 hb5 _)
      rw [HE.out] at hO5
      have hW5 := (hW2.trans (hb4.mono (Nat.le_trans hb hz))).trans hb5
      go_roundw
      case rel => exact ⟨k + 1, A5, n3 + n4, c5, by omega, by go_num, rfl, by omega, .inl hO5, fun _ => hO5, hW5⟩
      case measure => simp [intOf]; omega
    · have hq : ¬ (k : Int) < (m : Int) := by omega
      have hE2 : L ++ (l.take k).flatMap E = L ++ l.flatMap E := by rw [List.take_of_length_le (by have := HN.out; omega)]
      have hO2 := hO.out (HO.out.imp id fun h => by omega)
      rw [hE2] at hO2
      clear hP hO hE2
      go_wp2_with fail
      go_ret
      exact ⟨⟨A3, n3, d3, rfl, hO2⟩, hW⟩

set_option maxRecDepth 100000 in
set_option maxHeartbeats 2000000 in
theorem putListL_any (g : Nat) (E : Ln → List UInt8) (eg : ∀ args w, (callFunc g args).run Tryz.prog w = .ok (.enter g args) w) (A A2 : Option Addr) (n c m d : Nat) (L : List UInt8) (l : List Ln) (w : World) (hl : L.length = n) (hn : n ≤ 1000000) (hc : n ≤ c) (hr : RdB w.heap.size w A L)
    (hm : l.length = m) (hm1 : m ≤ 100000) (hr2 : RdX 11 w.heap.size w A2 (l.map Ln.cells)) (hE : ∀ x, x ∈ l → 0 < (E x).length ∧ (E x).length ≤ 5000000) (hg : PutsF g lnV E l) :
    Calls Tryz.prog 26 #[.slice A n c, .slice A2 m d, .func (.func g) #[] #[]] w fun e w' => PutX w.heap.size w (L ++ (numB m ++ l.flatMap E)) e w' := by
  have wn : IntKind.u64.wrap (m : Int) = (m : Int) := wrap_size (by omega)
  have HN := Lib.hid hm
  have HL := Lib.hid hl
  go_enter Tryz.func26, Tryz.ntmps26
  go_wp2_with fail
  refine (packNumberO_any A n c L m w hl hn hr hc (by omega)).mono ?_
  rintro e w1 ⟨⟨A1, n1, c1, rfl, hO1⟩, hb1⟩
  have hn1 := put_len hO1 hl (numB_small (n := m) (by omega))
  go_wp2_with fail
  refine (putAllL_any w.heap.size g E eg A1 A2 n1 c1 m d (L ++ numB m) l w1 (.inl hO1) (.inl hO1) hb1.size (by omega) HN.out hm1 (hr2.keep hb1 (Nat.le_refl _)) hE hg).mono ?_
  rintro e w2 ⟨⟨A4, n4, c4, rfl, hO4⟩, hb4⟩
  rw [List.append_assoc] at hO4
  go_wp2_with fail
  go_ret
  exact ⟨⟨A4, n4, c4, rfl, hO4⟩, hb1.trans hb4⟩
end Go.Proofs.YtpjleeeligahaaaGreatDoor
