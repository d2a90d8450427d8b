/-
  WHAT IS PROVED: package roll's calls that put lists behind other bytes (putAll, putList of each kind of element): the document's bytes, behind what was handed in, which stays. Conditions: those typed in each theorem. · package roll's calls that put reaches, cells, lines and lasts behind other bytes (PutReach, PutCells, PutLines, PutLasts): the document's bytes, behind what was handed in, which stays. Conditions: those typed in each theorem. · words for arrays of twelve numbers: as a list, in a block, loaded whole or by a cell. Conditions: those typed in each theorem. · words for an array of twelve numbers; package roll's PutLasts: the document's bytes, behind what was handed in, which stays. Conditions: those typed in each theorem. · nothing; plain words for a letter: what it is of, when it is good (chapter 8's words). No program is spoken of. · plain words for what the code asks of a letter; they come to the chapter's goodLt. No program is spoken of.
-/
import Derived.Test.YtpjleeeligahaaaGreatDoorGQ5
import Derived.Test.YtpjleeeligahaaaGreatDoorGQ1
import Derived.Deep.MidRow
import Derived.Test.YtpjleeeligahaaaGreatDoorGQ2
import Derived.Test.YtpjleeeligahaaaGreatDoorGQ4
namespace Go.Proofs.YtpjleeeligahaaaGreatDoor
open Go.RowKit

abbrev strC (x : ByteArray) : Array Value := #[.string x]
abbrev intC (x : Int) : Array Value := #[.int .i64 x]
abbrev clV (x : Cl) : Value := .agg x.cells
abbrev lnV (x : Ln) : Value := .agg x.cells
/-- A call's answer: a row of bytes of the call's own. -/
def PutX (base : Nat) (w : World) (L : List UInt8) (e : Ending) (w' : World) : Prop := (∃ (A : Option Addr) (n c : Nat), e = .returned (.slice A n c) ∧ OwnB base w' A n c L) ∧ Below base w w'
set_option maxRecDepth 100000 in
theorem packNumberO_any (A : Option Addr) (n c : Nat) (l : List UInt8) (x : Nat) (w : World) (hl : l.length = n) (hn : n ≤ 1000000) (hr : RdB w.heap.size w A l) (hc : n ≤ c) (hx : x < 18446744073709551616) :
    Calls Tryz.prog 62 #[.slice A n c, .int .u64 x] w fun e w' => PutX w.heap.size w (l ++ numB x) e w' := by
  go_enter Tryz.func62, Tryz.ntmps62
  go_wp2_with fail
  refine (own_any A n c w hc).mono ?_
  rintro e w1 ⟨rfl, rfl⟩
  go_wp2_with fail
  refine (putNumber_any w1.heap.size A n n l x w1 (preB_of hl hn hr) (Nat.le_refl _) (by omega) hx).mono ?_
  rintro e w2 ⟨⟨A2, n2, c2, rfl, hO2⟩, hb2, -⟩
  go_wp2_with fail
  go_ret
  exact ⟨⟨A2, n2, c2, rfl, hO2⟩, hb2⟩
/-- A function value that answers each of these as bytes. -/
def PutsF {α : Type} (g : Nat) (arg : α → Value) (E : α → List UInt8) (l : List α) : Prop := ∀ x, x ∈ l → ∀ W, Calls Tryz.prog g #[arg x] W fun e W' => PutR W (E x) e W'
theorem map_get {α β : Type} {f : α → β} {l : List α} {k : Nat} {x : α} (h : l[k]? = some x) : (l.map f)[k]? = some (f x) := by rw [List.getElem?_map, h]; rfl
theorem take_flat {α : Type} {E : α → List UInt8} {L : List UInt8} {l : List α} {k : Nat} {x : α} (h : l[k]? = some x) : L ++ (l.take k).flatMap E ++ E x = L ++ (l.take (k + 1)).flatMap E := by
  rw [List.take_add_one, h]
  simp
theorem PreB.own {base : Nat} {W : World} {A : Option Addr} {n c : Nat} {l : List UInt8} (h : OwnB base W A n c l) : PreB base W A n c l := .inl h

set_option maxRecDepth 100000 in
set_option maxHeartbeats 4000000 in
theorem putAllS_any (base g : Nat) (E : ByteArray → List UInt8) (eg : ∀ args w, (callFunc g args).run Tryz.prog w = .ok (.enter g args) w) (A A2 : Option Addr) (n c m d : Nat) (L : List UInt8) (l : List ByteArray) (w : World) (hp : PreB base w A n c L) (ho : OwnB base w A n c L ∨ 0 < m) (hb : base ≤ w.heap.size) (hn : n ≤ 1000009)
    (hm : l.length = m) (hm1 : m ≤ 100000) (hr : RdX 1 base w A2 (l.map strC)) (hE : ∀ x, x ∈ l → 0 < (E x).length ∧ (E x).length ≤ 5000000) (hg : PutsF g Value.string E l) :
    Calls Tryz.prog 107 #[.slice A n c, .slice A2 m d, .func (.func g) #[] #[]] w fun e w' => PutX base w (L ++ l.flatMap E) e w' := by
  obtain ⟨i0, hi0, hz0, hz1, hz2⟩ := info_parts byt_info
  have HN := Lib.hid hm
  have HR := Lib.hid (fun W (h : Below base w W) => hr.keep (W' := W) h (Nat.le_refl _))
  have HF := Lib.hid hg
  have HO := Lib.hid ho
  clear hm hr hg ho
  go_enter Tryz.func107, Tryz.ntmps107
  go_wp2_with fail
  go_loopw [0, 8, 11] (fun b _ i wr => ∃ (k : Nat) (A3 : Option Addr) (n3 c3 : Nat), k ≤ m ∧ i = .int .i64 k ∧ b = .slice A3 n3 c3 ∧ n3 ≤ 1000009 + 5000000 * k ∧ PreB base wr A3 n3 c3 (L ++ (l.take k).flatMap E) ∧ Hid (OwnB base w A n c L ∨ 0 < k → OwnB base wr A3 n3 c3 (L ++ (l.take k).flatMap E)) ∧ Below base w wr) (fun _ _ i _ => m - (intOf i).toNat)
  case atStart => exact ⟨0, A, n, c, Nat.zero_le _, rfl, rfl, by omega, by simpa using hp, fun h => by simpa using h.resolve_right (by omega), Below.refl _ _⟩
  case round =>
    clear hp
    obtain ⟨k, A3, n3, d3, hk, rfl, rfl, hn3, hP, hO, hW⟩ := hrel
    by_cases hlt : k < m
    · obtain ⟨x, hx⟩ : ∃ x, l[k]? = some x := ⟨_, List.getElem?_eq_getElem (show k < l.length by have := HN.out; omega)⟩
      obtain ⟨ad, rfl, _, hc⟩ := HR.out wr hW k _ (map_get hx)
      have i1 : (0 : Int) ≤ (k : Int) := by omega
      have i2 : (k : Int) < (m : Int) := by omega
      obtain ⟨e1, e2⟩ := hE x (List.mem_of_getElem? hx)
      have HG := Lib.hid (HF.out x (List.mem_of_getElem? hx))
      have HE := Lib.hid (take_flat (E := E) (L := L) hx)
      clear hx hO
      have q0 : wr.cell? (ad.add k) = some (.string x) := by have := hc 0 _ rfl; simpa using this
      clear hc
      have hP2 := hP
      have hW2 := hW
      have hz := hW2.size
      go_wp2_with first
        | (go_at_fn g; refine (HG.out _).mono ?_; rintro e w2 ⟨⟨A4, n4, c4, rfl, hl4, hr4, hc4⟩, hb4⟩)
        | (at_builtin; refine wpList_apP (base := base) (n := n3) (m := n4) (l := L ++ (l.take k).flatMap E) (l2 := E x) (by rfl) _ _ (by rfl) Tryz.underlying23 Tryz.underlying23 hi0 hz0 hz1 hz2 (by rfl) (by rfl) (hP2.keep hb4) hr4 hl4 (by omega) (n3 + n4) rfl (by omega) (Nat.le_trans (Nat.le_trans hb hz) hb4.size) ?_; intro A5 c5 w5 hO5 hb5 _)
      rw [HE.out] at hO5
      have hW5 := (hW2.trans (hb4.mono (Nat.le_trans hb hz))).trans hb5
      go_roundw
      case rel => exact ⟨k + 1, A5, n3 + n4, c5, by omega, by go_num, rfl, by omega, .inl hO5, fun _ => hO5, hW5⟩
      case measure => simp [intOf]; omega
    · have hq : ¬ (k : Int) < (m : Int) := by omega
      have hE2 : L ++ (l.take k).flatMap E = L ++ l.flatMap E := by rw [List.take_of_length_le (by have := HN.out; omega)]
      have hO2 := hO.out (HO.out.imp id fun h => by omega)
      rw [hE2] at hO2
      clear hP hO hE2
      go_wp2_with fail
      go_ret
      exact ⟨⟨A3, n3, d3, rfl, hO2⟩, hW⟩

set_option maxRecDepth 100000 in
set_option maxHeartbeats 2000000 in
theorem putListS_any (g : Nat) (E : ByteArray → List UInt8) (eg : ∀ args w, (callFunc g args).run Tryz.prog w = .ok (.enter g args) w) (A A2 : Option Addr) (n c m d : Nat) (L : List UInt8) (l : List ByteArray) (w : World) (hl : L.length = n) (hn : n ≤ 1000000) (hc : n ≤ c) (hr : RdB w.heap.size w A L)
    (hm : l.length = m) (hm1 : m ≤ 100000) (hr2 : RdX 1 w.heap.size w A2 (l.map strC)) (hE : ∀ x, x ∈ l → 0 < (E x).length ∧ (E x).length ≤ 5000000) (hg : PutsF g Value.string E l) :
    Calls Tryz.prog 53 #[.slice A n c, .slice A2 m d, .func (.func g) #[] #[]] w fun e w' => PutX w.heap.size w (L ++ (numB m ++ l.flatMap E)) e w' := by
  have wn : IntKind.u64.wrap (m : Int) = (m : Int) := wrap_size (by omega)
  have HN := Lib.hid hm
  have HL := Lib.hid hl
  go_enter Tryz.func53, Tryz.ntmps53
  go_wp2_with fail
  refine (packNumberO_any A n c L m w hl hn hr hc (by omega)).mono ?_
  rintro e w1 ⟨⟨A1, n1, c1, rfl, hO1⟩, hb1⟩
  have hn1 := put_len hO1 hl (numB_small (n := m) (by omega))
  go_wp2_with fail
  refine (putAllS_any w.heap.size g E eg A1 A2 n1 c1 m d (L ++ numB m) l w1 (.inl hO1) (.inl hO1) hb1.size (by omega) HN.out hm1 (hr2.keep hb1 (Nat.le_refl _)) hE hg).mono ?_
  rintro e w2 ⟨⟨A4, n4, c4, rfl, hO4⟩, hb4⟩
  rw [List.append_assoc] at hO4
  go_wp2_with fail
  go_ret
  exact ⟨⟨A4, n4, c4, rfl, hO4⟩, hb1.trans hb4⟩

set_option maxRecDepth 100000 in
set_option maxHeartbeats 4000000 in
theorem putAllI_any (base g : Nat) (E : Int → List UInt8) (eg : ∀ args w, (callFunc g args).run Tryz.prog w = .ok (.enter g args) w) (A A2 : Option Addr) (n c m d : Nat) (L : List UInt8) (l : List Int) (w : World) (hp : PreB base w A n c L) (ho : OwnB base w A n c L ∨ 0 < m) (hb : base ≤ w.heap.size) (hn : n ≤ 1000009)
    (hm : l.length = m) (hm1 : m ≤ 100000) (hr : RdX 1 base w A2 (l.map intC)) (hE : ∀ x, x ∈ l → 0 < (E x).length ∧ (E x).length ≤ 5000000) (hg : PutsF g (Value.int .i64) E l) :
    Calls Tryz.prog 143 #[.slice A n c, .slice A2 m d, .func (.func g) #[] #[]] w fun e w' => PutX base w (L ++ l.flatMap E) e w' := by
  obtain ⟨i0, hi0, hz0, hz1, hz2⟩ := info_parts byt_info
  have HN := Lib.hid hm
  have HR := Lib.hid (fun W (h : Below base w W) => hr.keep (W' := W) h (Nat.le_refl _))
  have HF := Lib.hid hg
  have HO := Lib.hid ho
  clear hm hr hg ho
  go_enter Tryz.func143, Tryz.ntmps143
  go_wp2_with fail
  go_loopw [0, 8, 11] (fun b _ i wr => ∃ (k : Nat) (A3 : Option Addr) (n3 c3 : Nat), k ≤ m ∧ i = .int .i64 k ∧ b = .slice A3 n3 c3 ∧ n3 ≤ 1000009 + 5000000 * k ∧ PreB base wr A3 n3 c3 (L ++ (l.take k).flatMap E) ∧ Hid (OwnB base w A n c L ∨ 0 < k → OwnB base wr A3 n3 c3 (L ++ (l.take k).flatMap E)) ∧ Below base w wr) (fun _ _ i _ => m - (intOf i).toNat)
  case atStart => exact ⟨0, A, n, c, Nat.zero_le _, rfl, rfl, by omega, by simpa using hp, fun h => by simpa using h.resolve_right (by omega), Below.refl _ _⟩
  case round =>
    clear hp
    obtain ⟨k, A3, n3, d3, hk, rfl, rfl, hn3, hP, hO, hW⟩ := hrel
    by_cases hlt : k < m
    · obtain ⟨x, hx⟩ : ∃ x, l[k]? = some x := ⟨_, List.getElem?_eq_getElem (show k < l.length by have := HN.out; omega)⟩
      obtain ⟨ad, rfl, _, hc⟩ := HR.out wr hW k _ (map_get hx)
      have i1 : (0 : Int) ≤ (k : Int) := by omega
      have i2 : (k : Int) < (m : Int) := by omega
      obtain ⟨e1, e2⟩ := hE x (List.mem_of_getElem? hx)
      have HG := Lib.hid (HF.out x (List.mem_of_getElem? hx))
      have HE := Lib.hid (take_flat (E := E) (L := L) hx)
      clear hx hO
      have q0 : wr.cell? (ad.add k) = some (.int .i64 x) := by have := hc 0 _ rfl; simpa using this
      clear hc
      have hP2 := hP
      have hW2 := hW
      have hz := hW2.size
      go_wp2_with first
        | (go_at_fn g; refine (HG.out _).mono ?_; rintro e w2 ⟨⟨A4, n4, c4, rfl, hl4, hr4, hc4⟩, hb4⟩)
        | (at_builtin; refine wpList_apP (base := base) (n := n3) (m := n4) (l := L ++ (l.take k).flatMap E) (l2 := E x) (by rfl) _ _ (by rfl) Tryz.underlying23 Tryz.underlying23 hi0 hz0 hz1 hz2 (by rfl) (by rfl) (hP2.keep hb4) hr4 hl4 (by omega) (n3 + n4) rfl (by omega) (Nat.le_trans (Nat.le_trans hb hz) hb4.size) ?_; intro A5 c5 w5 hO5 hb5 _)
      rw [HE.out] at hO5
      have hW5 := (hW2.trans (hb4.mono (Nat.le_trans hb hz))).trans hb5
      go_roundw
      case rel => exact ⟨k + 1, A5, n3 + n4, c5, by omega, by go_num, rfl, by omega, .inl hO5, fun _ => hO5, hW5⟩
      case measure => simp [intOf]; omega
    · have hq : ¬ (k : Int) < (m : Int) := by omega
      have hE2 : L ++ (l.take k).flatMap E = L ++ l.flatMap E := by rw [List.take_of_length_le (by have := HN.out; omega)]
      have hO2 := hO.out (HO.out.imp id fun h => by omega)
      rw [hE2] at hO2
      clear hP hO hE2
      go_wp2_with fail
      go_ret
      exact ⟨⟨A3, n3, d3, rfl, hO2⟩, hW⟩

set_option maxRecDepth 100000 in
set_option maxHeartbeats 4000000 in
theorem putAllC_any (base g : Nat) (E : Cl → List UInt8) (eg : ∀ args w, (callFunc g args).run Tryz.prog w = .ok (.enter g args) w) (A A2 : Option Addr) (n c m d : Nat) (L : List UInt8) (l : List Cl) (w : World) (hp : PreB base w A n c L) (ho : OwnB base w A n c L ∨ 0 < m) (hb : base ≤ w.heap.size) (hn : n ≤ 1000009)
    (hm : l.length = m) (hm1 : m ≤ 100000) (hr : RdX 4 base w A2 (l.map Cl.cells)) (hE : ∀ x, x ∈ l → 0 < (E x).length ∧ (E x).length ≤ 5000000) (hg : PutsF g clV E l) :
    Calls Tryz.prog 109 #[.slice A n c, .slice A2 m d, .func (.func g) #[] #[]] w fun e w' => PutX base w (L ++ l.flatMap E) e w' := by
  obtain ⟨i0, hi0, hz0, hz1, hz2⟩ := info_parts byt_info
  have HN := Lib.hid hm
  have HR := Lib.hid (fun W (h : Below base w W) => hr.keep (W' := W) h (Nat.le_refl _))
  have HF := Lib.hid hg
  have HO := Lib.hid ho
  clear hm hr hg ho
  go_enter Tryz.func109, Tryz.ntmps109
  go_wp2_with fail
  go_loopw [0, 11] (fun b i wr => ∃ (k : Nat) (A3 : Option Addr) (n3 c3 : Nat), k ≤ m ∧ i = .int .i64 k ∧ b = .slice A3 n3 c3 ∧ n3 ≤ 1000009 + 5000000 * k ∧ PreB base wr A3 n3 c3 (L ++ (l.take k).flatMap E) ∧ Hid (OwnB base w A n c L ∨ 0 < k → OwnB base wr A3 n3 c3 (L ++ (l.take k).flatMap E)) ∧ Below base w wr) (fun _ i _ => m - (intOf i).toNat)
  case atStart => exact ⟨0, A, n, c, Nat.zero_le _, rfl, rfl, by omega, by simpa using hp, fun h => by simpa using h.resolve_right (by omega), Below.refl _ _⟩
  case round =>
    clear hp
    obtain ⟨k, A3, n3, d3, hk, rfl, rfl, hn3, hP, hO, hW⟩ := hrel
    by_cases hlt : k < m
    · obtain ⟨x, hx⟩ : ∃ x, l[k]? = some x := ⟨_, List.getElem?_eq_getElem (show k < l.length by have := HN.out; omega)⟩
      obtain ⟨ad, rfl, _, hc⟩ := HR.out wr hW k _ (map_get hx)
      have i1 : (0 : Int) ≤ (k : Int) := by omega
      have i2 : (k : Int) < (m : Int) := by omega
      obtain ⟨e1, e2⟩ := hE x (List.mem_of_getElem? hx)
      have HG := Lib.hid (HF.out x (List.mem_of_getElem? hx))
      have HE := Lib.hid (take_flat (E := E) (L := L) hx)
      clear hx hO
      have q0 : wr.cell? (ad.add (k * 4)) = some (.string x.ky) := (celX hc).1 _ rfl
      have q1 : wr.cell? ⟨(ad.add (k * 4)).block, (ad.add (k * 4)).off + 1, none⟩ = some (.int .i64 x.k) := (celX hc).2 0 _ rfl
      have q2 : wr.cell? ⟨(ad.add (k * 4)).block, (ad.add (k * 4)).off + 2, none⟩ = some (.int .i64 x.x) := (celX hc).2 1 _ rfl
      have q3 : wr.cell? ⟨(ad.add (k * 4)).block, (ad.add (k * 4)).off + 3, none⟩ = some (.string x.s) := (celX hc).2 2 _ rfl
      clear hc
      have hP2 := hP.keep (b0 wr (.cells x.cells 61))
      have hW2 := hW.alloc (Nat.le_trans hb hW.size) (.cells x.cells 61)
      have hz := hW2.size
      go_wp2_with first
        | (go_at_fn g; refine (HG.out _).mono ?_; rintro e w2 ⟨⟨A4, n4, c4, rfl, hl4, hr4, hc4⟩, hb4⟩)
        | (at_builtin; refine wpList_apP (base := base) (n := n3) (m := n4) (l := L ++ (l.take k).flatMap E) (l2 := E x) (by rfl) _ _ (by rfl) Tryz.underlying23 Tryz.underlying23 hi0 hz0 hz1 hz2 (by rfl) (by rfl) (hP2.keep hb4) hr4 hl4 (by omega) (n3 + n4) rfl (by omega) (Nat.le_trans (Nat.le_trans hb hz) hb4.size) ?_; intro A5 c5 w5 hO5 hb5 _)
      rw [HE.out] at hO5
      have hW5 := (hW2.trans (hb4.mono (Nat.le_trans hb hz))).trans hb5
      go_roundw
      case rel => exact ⟨k + 1, A5, n3 + n4, c5, by omega, by go_num, rfl, by omega, .inl hO5, fun _ => hO5, hW5⟩
      case measure => simp [intOf]; omega
    · have hq : ¬ (k : Int) < (m : Int) := by omega
      have hE2 : L ++ (l.take k).flatMap E = L ++ l.flatMap E := by rw [List.take_of_length_le (by have := HN.out; omega)]
      have hO2 := hO.out (HO.out.imp id fun h => by omega)
      rw [hE2] at hO2
      clear hP hO hE2
      go_wp2_with fail
      go_ret
      exact ⟨⟨A3, n3, d3, rfl, hO2⟩, hW⟩

set_option maxRecDepth 100000 in
set_option maxHeartbeats 2000000 in
theorem putListC_any (g : Nat) (E : Cl → List UInt8) (eg : ∀ args w, (callFunc g args).run Tryz.prog w = .ok (.enter g args) w) (A A2 : Option Addr) (n c m d : Nat) (L : List UInt8) (l : List Cl) (w : World) (hl : L.length = n) (hn : n ≤ 1000000) (hc : n ≤ c) (hr : RdB w.heap.size w A L)
    (hm : l.length = m) (hm1 : m ≤ 100000) (hr2 : RdX 4 w.heap.size w A2 (l.map Cl.cells)) (hE : ∀ x, x ∈ l → 0 < (E x).length ∧ (E x).length ≤ 5000000) (hg : PutsF g clV E l) :
    Calls Tryz.prog 56 #[.slice A n c, .slice A2 m d, .func (.func g) #[] #[]] w fun e w' => PutX w.heap.size w (L ++ (numB m ++ l.flatMap E)) e w' := by
  have wn : IntKind.u64.wrap (m : Int) = (m : Int) := wrap_size (by omega)
  have HN := Lib.hid hm
  have HL := Lib.hid hl
  go_enter Tryz.func56, Tryz.ntmps56
  go_wp2_with fail
  refine (packNumberO_any A n c L m w hl hn hr hc (by omega)).mono ?_
  rintro e w1 ⟨⟨A1, n1, c1, rfl, hO1⟩, hb1⟩
  have hn1 := put_len hO1 hl (numB_small (n := m) (by omega))
  go_wp2_with fail
  refine (putAllC_any w.heap.size g E eg A1 A2 n1 c1 m d (L ++ numB m) l w1 (.inl hO1) (.inl hO1) hb1.size (by omega) HN.out hm1 (hr2.keep hb1 (Nat.le_refl _)) hE hg).mono ?_
  rintro e w2 ⟨⟨A4, n4, c4, rfl, hO4⟩, hb4⟩
  rw [List.append_assoc] at hO4
  go_wp2_with fail
  go_ret
  exact ⟨⟨A4, n4, c4, rfl, hO4⟩, hb1.trans hb4⟩

set_option maxRecDepth 100000 in
set_option maxHeartbeats 4000000 in
theorem putAllL_any (base g : Nat) (E : Ln → List UInt8) (eg : ∀ args w, (callFunc g args).run Tryz.prog w = .ok (.enter g args) w) (A A2 : Option Addr) (n c m d : Nat) (L : List UInt8) (l : List Ln) (w : World) (hp : PreB base w A n c L) (ho : OwnB base w A n c L ∨ 0 < m) (hb : base ≤ w.heap.size) (hn : n ≤ 1000009)
    (hm : l.length = m) (hm1 : m ≤ 100000) (hr : RdX 11 base w A2 (l.map Ln.cells)) (hE : ∀ x, x ∈ l → 0 < (E x).length ∧ (E x).length ≤ 5000000) (hg : PutsF g lnV E l) :
    Calls Tryz.prog 61 #[.slice A n c, .slice A2 m d, .func (.func g) #[] #[]] w fun e w' => PutX base w (L ++ l.flatMap E) e w' := by
  obtain ⟨i0, hi0, hz0, hz1, hz2⟩ := info_parts byt_info
  have HN := Lib.hid hm
  have HR := Lib.hid (fun W (h : Below base w W) => hr.keep (W' := W) h (Nat.le_refl _))
  have HF := Lib.hid hg
  have HO := Lib.hid ho
  clear hm hr hg ho
  go_enter Tryz.func61, Tryz.ntmps61
  go_wp2_with fail
  go_loopw [0, 11] (fun b i wr => ∃ (k : Nat) (A3 : Option Addr) (n3 c3 : Nat), k ≤ m ∧ i = .int .i64 k ∧ b = .slice A3 n3 c3 ∧ n3 ≤ 1000009 + 5000000 * k ∧ PreB base wr A3 n3 c3 (L ++ (l.take k).flatMap E) ∧ Hid (OwnB base w A n c L ∨ 0 < k → OwnB base wr A3 n3 c3 (L ++ (l.take k).flatMap E)) ∧ Below base w wr) (fun _ i _ => m - (intOf i).toNat)
  case atStart => exact ⟨0, A, n, c, Nat.zero_le _, rfl, rfl, by omega, by simpa using hp, fun h => by simpa using h.resolve_right (by omega), Below.refl _ _⟩
  case round =>
    clear hp
    obtain ⟨k, A3, n3, d3, hk, rfl, rfl, hn3, hP, hO, hW⟩ := hrel
    by_cases hlt : k < m
    · obtain ⟨x, hx⟩ : ∃ x, l[k]? = some x := ⟨_, List.getElem?_eq_getElem (show k < l.length by have := HN.out; omega)⟩
      obtain ⟨ad, rfl, _, hc⟩ := HR.out wr hW k _ (map_get hx)
      have i1 : (0 : Int) ≤ (k : Int) := by omega
      have i2 : (k : Int) < (m : Int) := by omega
      obtain ⟨e1, e2⟩ := hE x (List.mem_of_getElem? hx)
      have HG := Lib.hid (HF.out x (List.mem_of_getElem? hx))
      have HE := Lib.hid (take_flat (E := E) (L := L) hx)
      clear hx hO
      have q0 : wr.cell? (ad.add (k * 11)) = some (.int .i64 x.pl) := (celX hc).1 _ rfl
      have q1 : wr.cell? ⟨(ad.add (k * 11)).block, (ad.add (k * 11)).off + 1, none⟩ = some (.int .i64 x.w.dev) := (celX hc).2 0 _ rfl
      have q2 : wr.cell? ⟨(ad.add (k * 11)).block, (ad.add (k * 11)).off + 2, none⟩ = some (.int .i64 x.w.seq) := (celX hc).2 1 _ rfl
      have q3 : wr.cell? ⟨(ad.add (k * 11)).block, (ad.add (k * 11)).off + 3, none⟩ = some (.int .i64 x.w.K) := (celX hc).2 2 _ rfl
      have q4 : wr.cell? ⟨(ad.add (k * 11)).block, (ad.add (k * 11)).off + 4, none⟩ = some (.string x.w.ky) := (celX hc).2 3 _ rfl
      have q5 : wr.cell? ⟨(ad.add (k * 11)).block, (ad.add (k * 11)).off + 5, none⟩ = some (.int .i64 x.w.ka) := (celX hc).2 4 _ rfl
      have q6 : wr.cell? ⟨(ad.add (k * 11)).block, (ad.add (k * 11)).off + 6, none⟩ = some (.int .i64 x.w.na) := (celX hc).2 5 _ rfl
      have q7 : wr.cell? ⟨(ad.add (k * 11)).block, (ad.add (k * 11)).off + 7, none⟩ = some (.string x.w.sa) := (celX hc).2 6 _ rfl
      have q8 : wr.cell? ⟨(ad.add (k * 11)).block, (ad.add (k * 11)).off + 8, none⟩ = some (.int .i64 x.w.kb) := (celX hc).2 7 _ rfl
      have q9 : wr.cell? ⟨(ad.add (k * 11)).block, (ad.add (k * 11)).off + 9, none⟩ = some (.int .i64 x.w.nb) := (celX hc).2 8 _ rfl
      have q10 : wr.cell? ⟨(ad.add (k * 11)).block, (ad.add (k * 11)).off + 10, none⟩ = some (.string x.w.sb) := (celX hc).2 9 _ rfl
      clear hc
      have hP2 := hP.keep (b0 wr (.cells x.cells 49))
      have hW2 := hW.alloc (Nat.le_trans hb hW.size) (.cells x.cells 49)
      have hz := hW2.size
      go_wp2_with first
        | (go_at_fn g; refine (HG.out _).mono ?_; rintro e w2 ⟨⟨A4, n4, c4, rfl, hl4, hr4, hc4⟩, hb4⟩)
        | (at_builtin; refine wpList_apP (base := base) (n := n3) (m := n4) (l := L ++ (l.take k).flatMap E) (l2 := E x) (by rfl) _ _ (by rfl) Tryz.underlying23 Tryz.underlying23 hi0 hz0 hz1 hz2 (by rfl) (by rfl) (hP2.keep hb4) hr4 hl4 (by omega) (n3 + n4) rfl (by omega) (Nat.le_trans (Nat.le_trans hb hz) hb4.size) ?_; intro A5 c5 w5 hO5 hb5 _)
      rw [HE.out] at hO5
      have hW5 := (hW2.trans (hb4.mono (Nat.le_trans hb hz))).trans hb5
      go_roundw
      case rel => exact ⟨k + 1, A5, n3 + n4, c5, by omega, by go_num, rfl, by omega, .inl hO5, fun _ => hO5, hW5⟩
      case measure => simp [intOf]; omega
    · have hq : ¬ (k : Int) < (m : Int) := by omega
      have hE2 : L ++ (l.take k).flatMap E = L ++ l.flatMap E := by rw [List.take_of_length_le (by have := HN.out; omega)]
      have hO2 := hO.out (HO.out.imp id fun h => by omega)
      rw [hE2] at hO2
      clear hP hO hE2
      go_wp2_with fail
      go_ret
      exact ⟨⟨A3, n3, d3, rfl, hO2⟩, hW⟩

set_option maxRecDepth 100000 in
set_option maxHeartbeats 2000000 in
theorem putListL_any (g : Nat) (E : Ln → List UInt8) (eg : ∀ args w, (callFunc g args).run Tryz.prog w = .ok (.enter g args) w) (A A2 : Option Addr) (n c m d : Nat) (L : List UInt8) (l : List Ln) (w : World) (hl : L.length = n) (hn : n ≤ 1000000) (hc : n ≤ c) (hr : RdB w.heap.size w A L)
    (hm : l.length = m) (hm1 : m ≤ 100000) (hr2 : RdX 11 w.heap.size w A2 (l.map Ln.cells)) (hE : ∀ x, x ∈ l → 0 < (E x).length ∧ (E x).length ≤ 5000000) (hg : PutsF g lnV E l) :
    Calls Tryz.prog 26 #[.slice A n c, .slice A2 m d, .func (.func g) #[] #[]] w fun e w' => PutX w.heap.size w (L ++ (numB m ++ l.flatMap E)) e w' := by
  have wn : IntKind.u64.wrap (m : Int) = (m : Int) := wrap_size (by omega)
  have HN := Lib.hid hm
  have HL := Lib.hid hl
  go_enter Tryz.func26, Tryz.ntmps26
  go_wp2_with fail
  refine (packNumberO_any A n c L m w hl hn hr hc (by omega)).mono ?_
  rintro e w1 ⟨⟨A1, n1, c1, rfl, hO1⟩, hb1⟩
  have hn1 := put_len hO1 hl (numB_small (n := m) (by omega))
  go_wp2_with fail
  refine (putAllL_any w.heap.size g E eg A1 A2 n1 c1 m d (L ++ numB m) l w1 (.inl hO1) (.inl hO1) hb1.size (by omega) HN.out hm1 (hr2.keep hb1 (Nat.le_refl _)) hE hg).mono ?_
  rintro e w2 ⟨⟨A4, n4, c4, rfl, hO4⟩, hb4⟩
  rw [List.append_assoc] at hO4
  go_wp2_with fail
  go_ret
  exact ⟨⟨A4, n4, c4, rfl, hO4⟩, hb1.trans hb4⟩
end Go.Proofs.YtpjleeeligahaaaGreatDoor

namespace Go.Proofs.YtpjleeeligahaaaGreatDoor
open Go.RowKit

section
variable {W w0 w' w1 : World} {b : Nat} {v0 v1 v2 v3 : Value} {t : TypeId}
theorem sb4_0 (h : Blk W b #[v0, v1, v2, v3] t) (hB : Below b w0 W) : W.drew.cell? ⟨b, 0, none⟩ = some v0 ∧ W.drew.cell? ⟨b, 1, none⟩ = some v1 ∧ W.drew.cell? ⟨b, 2, none⟩ = some v2 ∧ W.drew.cell? ⟨b, 3, none⟩ = some v3 ∧ Blk W.drew b #[v0, v1, v2, v3] t ∧ Below b w0 W.drew :=
  ⟨h.cell 0, h.cell 1, h.cell 2, h.cell 3, h, hB.drew⟩
theorem sb4_1 (h : w'.cell? ⟨b, 0, none⟩ = some v0 ∧ w'.cell? ⟨b, 1, none⟩ = some v1 ∧ w'.cell? ⟨b, 2, none⟩ = some v2 ∧ w'.cell? ⟨b, 3, none⟩ = some v3 ∧ Blk w' b #[v0, v1, v2, v3] t ∧ Below b w0 w') (hb : Below w'.heap.size w' w1) : w1.cell? ⟨b, 0, none⟩ = some v0 ∧ w1.cell? ⟨b, 1, none⟩ = some v1 ∧ w1.cell? ⟨b, 2, none⟩ = some v2 ∧ w1.cell? ⟨b, 3, none⟩ = some v3 ∧ Blk w1 b #[v0, v1, v2, v3] t ∧ Below b w0 w1 := by
  have k := Blk.keep h.2.2.2.2.1 hb
  exact ⟨k.cell 0, k.cell 1, k.cell 2, k.cell 3, k, h.2.2.2.2.2.trans (hb.mono (Nat.le_of_lt (Blk.lt h.2.2.2.2.1)))⟩
theorem sb4_b (h : w'.cell? ⟨b, 0, none⟩ = some v0 ∧ w'.cell? ⟨b, 1, none⟩ = some v1 ∧ w'.cell? ⟨b, 2, none⟩ = some v2 ∧ w'.cell? ⟨b, 3, none⟩ = some v3 ∧ Blk w' b #[v0, v1, v2, v3] t ∧ Below b w0 w') : Below b w0 w' := h.2.2.2.2.2
end

section
variable {W w0 w' w1 : World} {b : Nat} {v0 v1 v2 v3 v4 v5 v6 v7 v8 v9 v10 : Value} {t : TypeId}
theorem sb11_0 (h : Blk W b #[v0, v1, v2, v3, v4, v5, v6, v7, v8, v9, v10] t) (hB : Below b w0 W) : W.drew.cell? ⟨b, 0, none⟩ = some v0 ∧ W.drew.cell? ⟨b, 1, none⟩ = some v1 ∧ W.drew.cell? ⟨b, 2, none⟩ = some v2 ∧ W.drew.cell? ⟨b, 3, none⟩ = some v3 ∧ W.drew.cell? ⟨b, 4, none⟩ = some v4 ∧ W.drew.cell? ⟨b, 5, none⟩ = some v5 ∧ W.drew.cell? ⟨b, 6, none⟩ = some v6 ∧ W.drew.cell? ⟨b, 7, none⟩ = some v7 ∧ W.drew.cell? ⟨b, 8, none⟩ = some v8 ∧ W.drew.cell? ⟨b, 9, none⟩ = some v9 ∧ W.drew.cell? ⟨b, 10, none⟩ = some v10 ∧ Blk W.drew b #[v0, v1, v2, v3, v4, v5, v6, v7, v8, v9, v10] t ∧ Below b w0 W.drew :=
  ⟨h.cell 0, h.cell 1, h.cell 2, h.cell 3, h.cell 4, h.cell 5, h.cell 6, h.cell 7, h.cell 8, h.cell 9, h.cell 10, h, hB.drew⟩
theorem sb11_1 (h : w'.cell? ⟨b, 0, none⟩ = some v0 ∧ w'.cell? ⟨b, 1, none⟩ = some v1 ∧ w'.cell? ⟨b, 2, none⟩ = some v2 ∧ w'.cell? ⟨b, 3, none⟩ = some v3 ∧ w'.cell? ⟨b, 4, none⟩ = some v4 ∧ w'.cell? ⟨b, 5, none⟩ = some v5 ∧ w'.cell? ⟨b, 6, none⟩ = some v6 ∧ w'.cell? ⟨b, 7, none⟩ = some v7 ∧ w'.cell? ⟨b, 8, none⟩ = some v8 ∧ w'.cell? ⟨b, 9, none⟩ = some v9 ∧ w'.cell? ⟨b, 10, none⟩ = some v10 ∧ Blk w' b #[v0, v1, v2, v3, v4, v5, v6, v7, v8, v9, v10] t ∧ Below b w0 w') (hb : Below w'.heap.size w' w1) : w1.cell? ⟨b, 0, none⟩ = some v0 ∧ w1.cell? ⟨b, 1, none⟩ = some v1 ∧ w1.cell? ⟨b, 2, none⟩ = some v2 ∧ w1.cell? ⟨b, 3, none⟩ = some v3 ∧ w1.cell? ⟨b, 4, none⟩ = some v4 ∧ w1.cell? ⟨b, 5, none⟩ = some v5 ∧ w1.cell? ⟨b, 6, none⟩ = some v6 ∧ w1.cell? ⟨b, 7, none⟩ = some v7 ∧ w1.cell? ⟨b, 8, none⟩ = some v8 ∧ w1.cell? ⟨b, 9, none⟩ = some v9 ∧ w1.cell? ⟨b, 10, none⟩ = some v10 ∧ Blk w1 b #[v0, v1, v2, v3, v4, v5, v6, v7, v8, v9, v10] t ∧ Below b w0 w1 := by
  have k := Blk.keep h.2.2.2.2.2.2.2.2.2.2.2.1 hb
  exact ⟨k.cell 0, k.cell 1, k.cell 2, k.cell 3, k.cell 4, k.cell 5, k.cell 6, k.cell 7, k.cell 8, k.cell 9, k.cell 10, k, h.2.2.2.2.2.2.2.2.2.2.2.2.trans (hb.mono (Nat.le_of_lt (Blk.lt h.2.2.2.2.2.2.2.2.2.2.2.1)))⟩
theorem sb11_b (h : w'.cell? ⟨b, 0, none⟩ = some v0 ∧ w'.cell? ⟨b, 1, none⟩ = some v1 ∧ w'.cell? ⟨b, 2, none⟩ = some v2 ∧ w'.cell? ⟨b, 3, none⟩ = some v3 ∧ w'.cell? ⟨b, 4, none⟩ = some v4 ∧ w'.cell? ⟨b, 5, none⟩ = some v5 ∧ w'.cell? ⟨b, 6, none⟩ = some v6 ∧ w'.cell? ⟨b, 7, none⟩ = some v7 ∧ w'.cell? ⟨b, 8, none⟩ = some v8 ∧ w'.cell? ⟨b, 9, none⟩ = some v9 ∧ w'.cell? ⟨b, 10, none⟩ = some v10 ∧ Blk w' b #[v0, v1, v2, v3, v4, v5, v6, v7, v8, v9, v10] t ∧ Below b w0 w') : Below b w0 w' := h.2.2.2.2.2.2.2.2.2.2.2.2
end

theorem enters_putR : ∀ args w, (callFunc 54 args).run Tryz.prog w = .ok (.enter 54 args) w := enters_of Tryz.func54 (by kernel_rfl) rfl
theorem enters_putC : ∀ args w, (callFunc 57 args).run Tryz.prog w = .ok (.enter 57 args) w := enters_of Tryz.func57 (by kernel_rfl) rfl
theorem enters_putL : ∀ args w, (callFunc 27 args).run Tryz.prog w = .ok (.enter 27 args) w := enters_of Tryz.func27 (by kernel_rfl) rfl
theorem enters_num : ∀ args w, (callFunc 29 args).run Tryz.prog w = .ok (.enter 29 args) w := enters_of Tryz.func29 (by kernel_rfl) rfl

set_option maxRecDepth 100000 in
theorem putR1_any (s : ByteArray) (w : World) (hs : s.size ≤ 100000) :
    Calls Tryz.prog 54 #[.string s] w fun e w' => PutR w (textB s.data.toList) e w' := by
  go_enter Tryz.func54, Tryz.ntmps54
  go_wp2_with fail
  refine (packText_any none 0 0 [] s w rfl (by omega) (RdB.nil _ _ _) (Nat.le_refl _) hs).mono ?_
  rintro e w1 ⟨⟨A1, n1, c1, rfl, hl1, hr1, hc1⟩, hb1⟩
  go_wp2_with fail
  go_ret
  exact ⟨⟨A1, n1, c1, rfl, hl1, hr1, hc1⟩, hb1⟩
set_option maxRecDepth 100000 in
theorem number_any (x : Int) (w : World) (h0 : 0 ≤ x) (h1 : x ≤ 1000000) :
    Calls Tryz.prog 29 #[.int .i64 x] w fun e w' => PutR w (numB x.toNat) e w' := by
  obtain ⟨n, rfl⟩ : ∃ n : Nat, x = (n : Int) := ⟨x.toNat, by omega⟩
  have wn : IntKind.u64.wrap (n : Int) = (n : Int) := wrap_size (by omega)
  go_enter Tryz.func29, Tryz.ntmps29
  go_wp2_with fail
  refine (packNumber_any none 0 0 [] n w rfl (by omega) (RdB.nil _ _ _) (Nat.le_refl _) (by omega)).mono ?_
  rintro e w1 ⟨⟨A1, n1, c1, rfl, hl1, hr1, hc1⟩, hb1⟩
  go_wp2_with fail
  go_ret
  exact ⟨⟨A1, n1, c1, rfl, hl1, hr1, hc1⟩, hb1⟩

set_option maxRecDepth 100000 in
set_option maxHeartbeats 4000000 in
theorem putC1_any (c : Cl) (w : World) (hg : c.good = true) (hf : c.fits) :
    Calls Tryz.prog 57 #[clV c] w fun e w' => PutR w (clB c) e w' := by
  obtain ⟨h1, h2, h3, h4, h5⟩ := cl_in hg
  have HT := Lib.hid (fun W => (packText_any none 0 0 [] c.ky W rfl (by omega) (RdB.nil _ _ _) (Nat.le_refl _) (by omega)).mono fun e w' h => (show PutR W (textB c.ky.data.toList) e w' from h))
  have HV := Lib.hid (fun W A n d (hl : (textB c.ky.data.toList).length = n) (hn : n ≤ 100000) (hr : RdB W.heap.size W A (textB c.ky.data.toList)) (hc : n ≤ d) => packValue_any A n d (textB c.ky.data.toList) c.k c.x c.s W hl hn hr hc h5 hf.2.2.1 hf.2.2.2)
  have hts : (textB c.ky.data.toList).length ≤ 1000009 := textB_small (by omega)
  have hts2 : (textB c.ky.data.toList).length ≤ 100000 := by
    have e : c.ky.data.toList.length = c.ky.size := Array.length_toList
    have := numB_small (n := c.ky.data.toList.length) (by omega)
    unfold textB
    rw [List.length_append]
    omega
  clear h1 h2 h3 h4 h5 hg hf hts
  unfold clB
  obtain ⟨ky, k, x, s⟩ := c
  dsimp only at HT HV hts2 ⊢
  go_enter Tryz.func57, Tryz.ntmps57
  go_wp2_with fail
  have hC := blk_new w (clI ky k x s) 61
  have hB := b0 w (.cells (clI ky k x s) 61)
  generalize w.alloc (.cells (clI ky k x s) 61) = W at hC hB ⊢
  generalize hb : w.heap.size = b at hC hB ⊢
  go_region_held3 (fun w' => w'.cell? ⟨b, 0, none⟩ = some (.string ky) ∧ w'.cell? ⟨b, 1, none⟩ = some (.int .i64 k) ∧ w'.cell? ⟨b, 2, none⟩ = some (.int .i64 x) ∧ w'.cell? ⟨b, 3, none⟩ = some (.string s) ∧ Blk w' b #[.string ky, .int .i64 k, .int .i64 x, .string s] 61 ∧ Below b w w')
    (first | assumption | exact sb4_0 hC hB | exact sb4_1 (by assumption) (by assumption))
    (first
      | (go_at_call 55; ((with_reducible refine (HT.out _).mono ?_); rintro e w1 ⟨⟨A1, n1, c1, rfl, hl1, hr1, hc1⟩, hb1⟩))
      | (go_at_call 58; ((with_reducible refine (HV.out _ A1 n1 c1 hl1 (by rw [← hl1]; exact hts2) hr1 hc1).mono ?_); rintro e w2 ⟨⟨A2, n2, c2, rfl, hl2, hr2, hc2⟩, hb2⟩)))
  have hfin := sb4_b (w' := w2) (by assumption)
  go_wp2_with fail
  go_ret
  exact ⟨⟨A2, n2, c2, rfl, hl2, hr2, hc2⟩, by rw [hb]; exact hfin⟩

set_option maxRecDepth 100000 in
set_option maxHeartbeats 4000000 in
theorem putL1_any (c : Ln) (w : World) (hg : c.good = true) (hf : c.fits) :
    Calls Tryz.prog 27 #[lnV c] w fun e w' => PutR w (lnB c) e w' := by
  obtain ⟨h1, h2⟩ := ln_in hg
  have HT := Lib.hid (fun W => number_any c.pl W (by omega) (by omega))
  have HV := Lib.hid (fun W A n d (hl : (numB c.pl.toNat).length = n) (hn : n ≤ 100000) (hr : RdB W.heap.size W A (numB c.pl.toNat)) (hc : n ≤ d) => packWrite_any A n d (numB c.pl.toNat) c.w W hl hn hr hc h2 hf)
  have hts2 : (numB c.pl.toNat).length ≤ 100000 := Nat.le_trans (numB_small (by omega)) (by omega)
  clear h1 h2 hg hf
  unfold lnB
  obtain ⟨pl, dev, seq, K, ky, ka, na, sa, kb, nb, sb⟩ := c
  dsimp only at HT HV hts2 ⊢
  go_enter Tryz.func27, Tryz.ntmps27
  go_wp2_with fail
  have hC := blk_new w (lnI pl dev seq K ky ka na sa kb nb sb) 49
  have hB := b0 w (.cells (lnI pl dev seq K ky ka na sa kb nb sb) 49)
  generalize w.alloc (.cells (lnI pl dev seq K ky ka na sa kb nb sb) 49) = W at hC hB ⊢
  generalize hb : w.heap.size = b at hC hB ⊢
  go_region_held3 (fun w' => w'.cell? ⟨b, 0, none⟩ = some (.int .i64 pl) ∧ w'.cell? ⟨b, 1, none⟩ = some (.int .i64 dev) ∧ w'.cell? ⟨b, 2, none⟩ = some (.int .i64 seq) ∧ w'.cell? ⟨b, 3, none⟩ = some (.int .i64 K) ∧ w'.cell? ⟨b, 4, none⟩ = some (.string ky) ∧ w'.cell? ⟨b, 5, none⟩ = some (.int .i64 ka) ∧ w'.cell? ⟨b, 6, none⟩ = some (.int .i64 na) ∧ w'.cell? ⟨b, 7, none⟩ = some (.string sa) ∧ w'.cell? ⟨b, 8, none⟩ = some (.int .i64 kb) ∧ w'.cell? ⟨b, 9, none⟩ = some (.int .i64 nb) ∧ w'.cell? ⟨b, 10, none⟩ = some (.string sb) ∧ Blk w' b #[.int .i64 pl, .int .i64 dev, .int .i64 seq, .int .i64 K, .string ky, .int .i64 ka, .int .i64 na, .string sa, .int .i64 kb, .int .i64 nb, .string sb] 49 ∧ Below b w w')
    (first | assumption | exact sb11_0 hC hB | exact sb11_1 (by assumption) (by assumption))
    (first
      | (go_at_call 29; ((with_reducible refine (HT.out _).mono ?_); rintro e w1 ⟨⟨A1, n1, c1, rfl, hl1, hr1, hc1⟩, hb1⟩))
      | (go_at_call 28; ((with_reducible refine (HV.out _ A1 n1 c1 hl1 (by rw [← hl1]; exact hts2) hr1 hc1).mono ?_); rintro e w2 ⟨⟨A2, n2, c2, rfl, hl2, hr2, hc2⟩, hb2⟩)))
  have hfin := sb11_b (w' := w2) (by assumption)
  go_wp2_with fail
  go_ret
  exact ⟨⟨A2, n2, c2, rfl, hl2, hr2, hc2⟩, by rw [hb]; exact hfin⟩

theorem clB_small {c : Cl} (h : c.good = true) (hf : c.fits) : (clB c).length ≤ 3000000 := by
  obtain ⟨h1, h2, h3, h4, h5⟩ := cl_in h
  have a := textB_small (s := c.ky) (by omega)
  have b := valB_small (s := c.s) (goodB_in h5).1 hf.2.2.1 hf.2.2.2 (by omega)
  unfold clB
  rw [List.length_append]
  omega
theorem lnB_small {x : Ln} (h : x.good = true) (hf : x.fits) : (lnB x).length ≤ 5000000 := by
  obtain ⟨h1, h2⟩ := ln_in h
  obtain ⟨g1, g2, g3, g4, g5, g6⟩ := good_in h2
  obtain ⟨_, _, _, f1, f2⟩ := hf
  have a0 := numB_small (n := x.pl.toNat) (by omega)
  have a1 := numB_small (n := x.w.dev.toNat) (by omega)
  have a2 := numB_small (n := x.w.seq.toNat) (by omega)
  have a3 := numB_small (n := x.w.K.toNat) (by omega)
  have a4 := textB_small (s := x.w.ky) (by omega)
  have a5 := valB_small (s := x.w.sa) g5.1 f1.1 f1.2 (by omega)
  have a6 := valB_small (s := x.w.sb) g6.1 f2.1 f2.2 (by omega)
  unfold lnB wB wrB
  simp only [List.length_append]
  omega

set_option maxRecDepth 100000 in
theorem putR_any (A A2 : Option Addr) (n c m d : Nat) (L : List UInt8) (l : List ByteArray) (w : World) (hl : L.length = n) (hn : n ≤ 1000000) (hc : n ≤ c) (hr : RdB w.heap.size w A L) (hm : l.length = m) (hm1 : m ≤ 100000) (hr2 : RdX 1 w.heap.size w A2 (l.map strC)) (hg : ∀ x, x ∈ l → x.size ≤ 1000) :
    Calls Tryz.prog 23 #[.slice A n c, .slice A2 m d] w fun e w' => PutX w.heap.size w (L ++ (numB m ++ l.flatMap (fun s : ByteArray => textB s.data.toList))) e w' := by
  have hE : ∀ x, x ∈ l → 0 < ((fun s : ByteArray => textB s.data.toList) x).length ∧ ((fun s : ByteArray => textB s.data.toList) x).length ≤ 5000000 := fun x hx => ⟨text_pos _, Nat.le_trans (textB_small (s := x) (by have := hg x hx; omega)) (by omega)⟩
  have hF : PutsF 54 Value.string (fun s : ByteArray => textB s.data.toList) l := fun x hx W => putR1_any x W (by have := hg x hx; omega)
  have HP := Lib.hid (putListS_any 54 (fun s : ByteArray => textB s.data.toList) enters_putR A A2 n c m d L l w hl hn hc hr hm hm1 hr2 hE hF)
  clear hE hF
  go_enter Tryz.func23, Tryz.ntmps23
  go_wp2_with fail
  refine HP.out.mono ?_
  rintro e w1 ⟨⟨A1, n1, c1, rfl, hO1⟩, hb1⟩
  go_wp2_with fail
  go_ret
  exact ⟨⟨A1, n1, c1, rfl, hO1⟩, hb1⟩

set_option maxRecDepth 100000 in
theorem putC_any (A A2 : Option Addr) (n c m d : Nat) (L : List UInt8) (l : List Cl) (w : World) (hl : L.length = n) (hn : n ≤ 1000000) (hc : n ≤ c) (hr : RdB w.heap.size w A L) (hm : l.length = m) (hm1 : m ≤ 100000) (hr2 : RdX 4 w.heap.size w A2 (l.map Cl.cells)) (hg : ∀ x, x ∈ l → x.good = true ∧ x.fits) :
    Calls Tryz.prog 24 #[.slice A n c, .slice A2 m d] w fun e w' => PutX w.heap.size w (L ++ (numB m ++ l.flatMap clB)) e w' := by
  have hE : ∀ x, x ∈ l → 0 < (clB x).length ∧ (clB x).length ≤ 5000000 := fun x hx => ⟨Nat.pos_of_ne_zero (clB_pos (hg x hx).1), Nat.le_trans (clB_small (hg x hx).1 (hg x hx).2) (by omega)⟩
  have hF : PutsF 57 clV clB l := fun x hx W => putC1_any x W (hg x hx).1 (hg x hx).2
  have HP := Lib.hid (putListC_any 57 clB enters_putC A A2 n c m d L l w hl hn hc hr hm hm1 hr2 hE hF)
  clear hE hF
  go_enter Tryz.func24, Tryz.ntmps24
  go_wp2_with fail
  refine HP.out.mono ?_
  rintro e w1 ⟨⟨A1, n1, c1, rfl, hO1⟩, hb1⟩
  go_wp2_with fail
  go_ret
  exact ⟨⟨A1, n1, c1, rfl, hO1⟩, hb1⟩

set_option maxRecDepth 100000 in
theorem putL_any (A A2 : Option Addr) (n c m d : Nat) (L : List UInt8) (l : List Ln) (w : World) (hl : L.length = n) (hn : n ≤ 1000000) (hc : n ≤ c) (hr : RdB w.heap.size w A L) (hm : l.length = m) (hm1 : m ≤ 100000) (hr2 : RdX 11 w.heap.size w A2 (l.map Ln.cells)) (hg : ∀ x, x ∈ l → x.good = true ∧ x.fits) :
    Calls Tryz.prog 9 #[.slice A n c, .slice A2 m d] w fun e w' => PutX w.heap.size w (L ++ (numB m ++ l.flatMap lnB)) e w' := by
  have hE : ∀ x, x ∈ l → 0 < (lnB x).length ∧ (lnB x).length ≤ 5000000 := fun x hx => ⟨Nat.pos_of_ne_zero (lnB_pos x), lnB_small (hg x hx).1 (hg x hx).2⟩
  have hF : PutsF 27 lnV lnB l := fun x hx W => putL1_any x W (hg x hx).1 (hg x hx).2
  have HP := Lib.hid (putListL_any 27 lnB enters_putL A A2 n c m d L l w hl hn hc hr hm hm1 hr2 hE hF)
  clear hE hF
  go_enter Tryz.func9, Tryz.ntmps9
  go_wp2_with fail
  refine HP.out.mono ?_
  rintro e w1 ⟨⟨A1, n1, c1, rfl, hO1⟩, hb1⟩
  go_wp2_with fail
  go_ret
  exact ⟨⟨A1, n1, c1, rfl, hO1⟩, hb1⟩
end Go.Proofs.YtpjleeeligahaaaGreatDoor

namespace Go.Proofs.YtpjleeeligahaaaGreatDoor
open Go.RowKit

abbrev laI (a0 a1 a2 a3 a4 a5 a6 a7 a8 a9 a10 a11 : Int) : Array Value := #[.int .i64 a0, .int .i64 a1, .int .i64 a2, .int .i64 a3, .int .i64 a4, .int .i64 a5, .int .i64 a6, .int .i64 a7, .int .i64 a8, .int .i64 a9, .int .i64 a10, .int .i64 a11]
abbrev laL (a0 a1 a2 a3 a4 a5 a6 a7 a8 a9 a10 a11 : Int) : List Int := [a0, a1, a2, a3, a4, a5, a6, a7, a8, a9, a10, a11]
/-- Twelve numbers as a list. -/
abbrev liA (l : List Int) : Array Value := (l.map (Value.int .i64)).toArray
def gI (l : List Int) (j : Nat) : Int := (l[j]?).getD 0
theorem li_cases {l : List Int} (hl : l.length = 12) : ∃ a0 a1 a2 a3 a4 a5 a6 a7 a8 a9 a10 a11 : Int, l = laL a0 a1 a2 a3 a4 a5 a6 a7 a8 a9 a10 a11 := by
  match l, hl with
  | [a0, a1, a2, a3, a4, a5, a6, a7, a8, a9, a10, a11], _ => exact ⟨a0, a1, a2, a3, a4, a5, a6, a7, a8, a9, a10, a11, rfl⟩
theorem gI_some {l : List Int} {j : Nat} (h : j < l.length) : l[j]? = some (gI l j) := by
  unfold gI
  rw [List.getElem?_eq_getElem h]
  rfl
theorem li_cell {W : World} {b : Nat} {l : List Int} {t : TypeId} (h : Blk W b (liA l) t) {j : Nat} (hj : j < l.length) : W.cell? ⟨b, j, none⟩ = some (.int .i64 (gI l j)) := by
  rw [h.cell j, List.getElem?_toArray, List.getElem?_map, gI_some hj]
  rfl
theorem li_set (l : List Int) (j : Nat) (v : Int) : (liA l).setIfInBounds j (.int .i64 v) = liA (l.set j v) := by
  show _ = ((l.set j v).map (Value.int .i64)).toArray
  rw [List.setIfInBounds_toArray, List.map_set]
theorem li_one (l : List Int) : (liA l).all (·.oneCell') = true := by
  rw [List.all_toArray]
  simp [Value.oneCell']
theorem li_size (l : List Int) : (liA l).size = l.length := by simp
/-- Twelve numbers out of a rule. -/
def mk12 (f : Nat → Int) : List Int := (List.range 12).map f
theorem mk12_len (f : Nat → Int) : (mk12 f).length = 12 := by unfold mk12; simp
theorem gI_mk {f : Nat → Int} {j : Nat} (h : j < 12) : gI (mk12 f) j = f j := by
  unfold gI mk12
  rw [List.getElem?_map, List.getElem?_range h]
  rfl
theorem mk12_ext {f g : Nat → Int} (h : ∀ j, j < 12 → f j = g j) : mk12 f = mk12 g := by
  unfold mk12
  exact List.map_congr_left fun j hj => h j (List.mem_range.1 hj)
theorem li_ext {a b : List Int} (ha : a.length = 12) (hb : b.length = 12) (h : ∀ j, j < 12 → gI a j = gI b j) : a = b := by
  refine List.ext_getElem? fun j => ?_
  by_cases hj : j < 12
  · rw [gI_some (by omega), gI_some (by omega), h j hj]
  · rw [List.getElem?_eq_none (by omega), List.getElem?_eq_none (by omega)]
theorem mk12_self {l : List Int} (h : l.length = 12) : mk12 (gI l) = l := li_ext (mk12_len _) h fun _ hj => gI_mk hj
theorem gI_set {l : List Int} {j k : Nat} {v : Int} (h : k < l.length) : gI (l.set j v) k = if j = k then v else gI l k := by
  unfold gI
  rw [List.getElem?_set]
  split
  · rename_i e
    subst e
    rw [if_pos h]
    rfl
  · rfl
theorem in_liL {l : List Int} (hl : l.length = 12) {j : Nat} (hj : j < 12) (W : World) : (Instr.index 56 (.agg (liA l)) (.int .i64 (j : Int))).run Tryz.prog W = .ok (.int .i64 (gI l j)) W := by
  have hz : Tryz.prog.arrayLen 56 = 12 := by kernel_rfl
  have hc : Tryz.prog.cellsOf 3 = 1 := by kernel_rfl
  have i1 : (0 : Int) ≤ (j : Int) := by omega
  have i2 : (j : Int) < 12 := by omega
  have hg : (liA l)[j]? = some (.int .i64 (gI l j)) := by
    rw [List.getElem?_toArray, List.getElem?_map, gI_some (by omega)]
    rfl
  have hsz : (liA l).size = 12 := by rw [li_size, hl]
  obtain ⟨a0, a1, a2, a3, a4, a5, a6, a7, a8, a9, a10, a11, rfl⟩ := li_cases hl
  simp [Instr.index, run_underlying Tryz.underlying56, asIntOf, go_sem]
  match j, hj with
  | 0, _ | 1, _ | 2, _ | 3, _ | 4, _ | 5, _ | 6, _ | 7, _ | 8, _ | 9, _ | 10, _ | 11, _ => rfl
theorem ld_liL {W : World} {b : Nat} {l : List Int} {t : TypeId} (h : Blk W b (liA l) t) (hl : l.length = 12) : (Instr.loadAt 56 (.pointer (some ⟨b, 0, none⟩))).run Tryz.prog W = .ok (.agg (liA l)) W := by
  obtain ⟨a0, a1, a2, a3, a4, a5, a6, a7, a8, a9, a10, a11, rfl⟩ := li_cases hl
  exact run_loadAt_mid W b 0 _ (laI a0 a1 a2 a3 a4 a5 a6 a7 a8 a9 a10 a11).toList _ (fun j v hv => by rw [Nat.zero_add, h.cell j]; exact (Array.getElem?_toList ..).symm.trans hv) Tryz.underlying56 rfl (by kernel_rfl)
theorem ix_liL (W : World) (g j : Nat) (h : j < 12) : (Instr.indexAt 56 (.pointer (some ⟨g, 0, none⟩)) (.int .i64 (j : Int))).run Tryz.prog W = .ok (.pointer (some ⟨g, j, none⟩)) W := by
  have hz : Tryz.prog.arrayLen 56 = 12 := by kernel_rfl
  have i1 : (0 : Int) ≤ (j : Int) := by omega
  have i2 : (j : Int) < 12 := by omega
  have e : (⟨g, 0, none⟩ : Addr).add j = ⟨g, j, none⟩ := by
    unfold Addr.add
    split
    · next h => rw [h]
    · rw [Nat.zero_add]
  go_simp
theorem ld_liA {W : World} {b : Nat} {l : List Int} {t : TypeId} (h : Blk W b (liA l) t) (hl : l.length = 12) : (Instr.loadAt 55 (.pointer (some ⟨b, 0, none⟩))).run Tryz.prog W = .ok (.agg (liA l)) W := by
  obtain ⟨a0, a1, a2, a3, a4, a5, a6, a7, a8, a9, a10, a11, rfl⟩ := li_cases hl
  exact run_loadAt_mid W b 0 _ (laI a0 a1 a2 a3 a4 a5 a6 a7 a8 a9 a10 a11).toList _ (fun j v hv => by rw [Nat.zero_add, h.cell j]; exact (Array.getElem?_toList ..).symm.trans hv) Tryz.underlying55 rfl (by kernel_rfl)
theorem ix_liA (W : World) (g j : Nat) (h : j < 12) : (Instr.indexAt 55 (.pointer (some ⟨g, 0, none⟩)) (.int .i64 (j : Int))).run Tryz.prog W = .ok (.pointer (some ⟨g, j, none⟩)) W := by
  have hz : Tryz.prog.arrayLen 55 = 12 := by kernel_rfl
  have i1 : (0 : Int) ≤ (j : Int) := by omega
  have i2 : (j : Int) < 12 := by omega
  have e : (⟨g, 0, none⟩ : Addr).add j = ⟨g, j, none⟩ := by
    unfold Addr.add
    split
    · next h => rw [h]
    · rw [Nat.zero_add]
  go_simp
end Go.Proofs.YtpjleeeligahaaaGreatDoor

namespace Go.Proofs.YtpjleeeligahaaaGreatDoor
open Go.RowKit

/-- A block of one-cell things, as a slice over it reads. -/
theorem blk_rdx1 {W : World} {b : Nat} {cs : Array Value} {t : TypeId} (h : Blk W b cs t) : RdX 1 (b + 1) W (some ⟨b, 0, none⟩) (cs.toList.map fun v => #[v]) := by
  intro k c hk
  rw [List.getElem?_map, Array.getElem?_toList] at hk
  cases hv : cs[k]? with
  | none => rw [hv] at hk; cases hk
  | some v =>
    rw [hv] at hk
    injection hk with hk
    subst hk
    refine ⟨_, rfl, Nat.lt_succ_self _, fun j u hj => ?_⟩
    have hj0 : j = 0 := by
      have := (Array.getElem?_eq_some_iff.1 hj).1
      simp at this
      omega
    subst hj0
    injection hj with hj
    subst hj
    rw [Nat.mul_one, Nat.add_zero, zeroX_at, h.cell k]
    exact hv
theorem blk_la {W : World} {b : Nat} {a0 a1 a2 a3 a4 a5 a6 a7 a8 a9 a10 a11 : Int} {t : TypeId} (h : Blk W b (laI a0 a1 a2 a3 a4 a5 a6 a7 a8 a9 a10 a11) t) : RdX 1 (b + 1) W (some ⟨b, 0, none⟩) ((laL a0 a1 a2 a3 a4 a5 a6 a7 a8 a9 a10 a11).map intC) := blk_rdx1 h
set_option maxRecDepth 100000 in
theorem clip_any (A : Option Addr) (n c : Nat) (w : World) (hc : n ≤ c) :
    Calls Tryz.prog 144 #[.slice A n c] w fun e w' => e = .returned (.slice A n n) ∧ w' = w := by
  go_enter Tryz.func144, Tryz.ntmps144
  go_wp2_with fail
  go_ret
  exact ⟨rfl, rfl⟩
theorem blkB_0 {W w0 : World} {b : Nat} {cs : Array Value} {t : TypeId} (h : Blk W b cs t) (hB : Below b w0 W) : Blk W.drew b cs t ∧ Below b w0 W.drew := ⟨h, hB.drew⟩
theorem blkB_1 {W w0 w1 : World} {b : Nat} {cs : Array Value} {t : TypeId} (h : Blk W b cs t ∧ Below b w0 W) (hb : Below (b + 1) W w1) : Blk w1 b cs t ∧ Below b w0 w1 :=
  ⟨(hb.block b (Nat.lt_succ_self _)).trans h.1, h.2.trans (hb.mono (Nat.le_succ _))⟩

set_option maxRecDepth 100000 in
set_option maxHeartbeats 4000000 in
theorem putLa_any (A : Option Addr) (n c : Nat) (L : List UInt8) (a0 a1 a2 a3 a4 a5 a6 a7 a8 a9 a10 a11 : Int) (w : World) (hl : L.length = n) (hn : n ≤ 1000000) (hc : n ≤ c) (hr : RdB w.heap.size w A L) (hg : ∀ x, x ∈ laL a0 a1 a2 a3 a4 a5 a6 a7 a8 a9 a10 a11 → 0 ≤ x ∧ x ≤ 1000000) :
    Calls Tryz.prog 101 #[.slice A n c, .agg (laI a0 a1 a2 a3 a4 a5 a6 a7 a8 a9 a10 a11)] w fun e w' => PutX w.heap.size w (L ++ laB (laL a0 a1 a2 a3 a4 a5 a6 a7 a8 a9 a10 a11)) e w' := by
  have HV : Hid (∀ W (_ : Blk W w.heap.size (laI a0 a1 a2 a3 a4 a5 a6 a7 a8 a9 a10 a11) 56 ∧ Below w.heap.size w W), Calls Tryz.prog 143 #[.slice A n n, .slice (some ⟨w.heap.size, 0, none⟩) 12 12, .func (.func 29) #[] #[]] W fun e w' => PutX (w.heap.size + 1) W (L ++ laB (laL a0 a1 a2 a3 a4 a5 a6 a7 a8 a9 a10 a11)) e w') :=
    fun W hS => putAllI_any (w.heap.size + 1) 29 (fun x => numB x.toNat) enters_num A (some ⟨w.heap.size, 0, none⟩) n n 12 12 L (laL a0 a1 a2 a3 a4 a5 a6 a7 a8 a9 a10 a11) W (.inr ⟨(hr.keep hS.2 (Nat.le_refl _)).more hS.2.size, hl, rfl, hn⟩) (.inr (by omega)) hS.1.lt (by omega) rfl (by omega) (blk_la hS.1)
      (fun x hx => ⟨by rw [numB_len]; omega, Nat.le_trans (numB_small (by have := hg x hx; omega)) (by omega)⟩) (fun x hx W => number_any x W (hg x hx).1 (hg x hx).2)
  clear hg hr hl
  go_enter Tryz.func101, Tryz.ntmps101
  go_wp2_with fail
  have hC := blk_new w (laI a0 a1 a2 a3 a4 a5 a6 a7 a8 a9 a10 a11) 56
  have hB := b0 w (.cells (laI a0 a1 a2 a3 a4 a5 a6 a7 a8 a9 a10 a11) 56)
  generalize w.alloc (.cells (laI a0 a1 a2 a3 a4 a5 a6 a7 a8 a9 a10 a11) 56) = W at hC hB ⊢
  generalize hb : w.heap.size = b at hC hB HV ⊢
  go_region_held3 (fun w' => Blk w' b (laI a0 a1 a2 a3 a4 a5 a6 a7 a8 a9 a10 a11) 56 ∧ Below b w w')
    (first | assumption | exact blkB_0 hC hB | exact blkB_1 (by assumption) (by assumption))
    (first
      | (go_at_call 144; ((with_reducible refine (clip_any A n c _ hc).mono ?_); rintro e w1 ⟨rfl, rfl⟩))
      | (go_at_call 143; ((with_reducible refine (HV.out _ (by assumption)).mono ?_); rintro e w2 ⟨⟨A2, n2, c2, rfl, hO2⟩, hb2⟩)))
  have hfin : Blk w2 b (laI a0 a1 a2 a3 a4 a5 a6 a7 a8 a9 a10 a11) 56 ∧ Below b w w2 := by assumption
  go_wp2_with fail
  go_ret
  exact ⟨⟨A2, n2, c2, rfl, by rw [hb]; exact hO2.less (Nat.le_succ _)⟩, by rw [hb]; exact hfin.2⟩
end Go.Proofs.YtpjleeeligahaaaGreatDoor

namespace Go.Proofs.YtpjleeeligahaaaGreatDoor
open Go.RowKit

structure Lt where
  (k fr tt li tu pr lo fi st ta sr en : Int)
  sn : Bool
  re : List ByteArray
  ws : List Wr
  ls : List Ln
  cs : List Cl
  (a0 a1 a2 a3 a4 a5 a6 a7 a8 a9 a10 a11 : Int)
abbrev Lt.la (x : Lt) : List Int := laL x.a0 x.a1 x.a2 x.a3 x.a4 x.a5 x.a6 x.a7 x.a8 x.a9 x.a10 x.a11
abbrev Lt.laV (x : Lt) : List Value := [.int .i64 x.a0, .int .i64 x.a1, .int .i64 x.a2, .int .i64 x.a3, .int .i64 x.a4, .int .i64 x.a5, .int .i64 x.a6, .int .i64 x.a7, .int .i64 x.a8, .int .i64 x.a9, .int .i64 x.a10, .int .i64 x.a11]
/-- Where its lists lie: a slice each (reach, writes, lines, cells). -/
structure Hn where
  (A1 A2 A3 A4 : Option Addr)
  (n1 c1 n2 c2 n3 c3 n4 c4 : Nat)
/-- A letter's cells. -/
abbrev ltI (x : Lt) (h : Hn) : Array Value :=
  #[.int .i64 x.k, .int .i64 x.fr, .int .i64 x.tt, .int .i64 x.li, .int .i64 x.tu, .int .i64 x.pr, .int .i64 x.lo, .int .i64 x.fi, .int .i64 x.st, .int .i64 x.ta, .int .i64 x.sr, .int .i64 x.en, .bool x.sn,
    .slice h.A1 h.n1 h.c1, .slice h.A2 h.n2 h.c2, .slice h.A3 h.n3 h.c3, .slice h.A4 h.n4 h.c4,
    .int .i64 x.a0, .int .i64 x.a1, .int .i64 x.a2, .int .i64 x.a3, .int .i64 x.a4, .int .i64 x.a5, .int .i64 x.a6, .int .i64 x.a7, .int .i64 x.a8, .int .i64 x.a9, .int .i64 x.a10, .int .i64 x.a11]
/-- Its lists read so, in blocks below B. -/
structure LtR (B : Nat) (W : World) (x : Lt) (h : Hn) : Prop where
  l1 : x.re.length = h.n1
  r1 : RdS B W h.A1 x.re
  l2 : x.ws.length = h.n2
  r2 : RdW B W h.A2 x.ws
  l3 : x.ls.length = h.n3
  r3 : RdX 11 B W h.A3 (x.ls.map Ln.cells)
  l4 : x.cs.length = h.n4
  r4 : RdX 4 B W h.A4 (x.cs.map Cl.cells)
theorem LtR.keep {B C : Nat} {W W' : World} {x : Lt} {h : Hn} (H : LtR B W x h) (hb : Below C W W') (hBC : B ≤ C) : LtR B W' x h :=
  ⟨H.l1, H.r1.keep hb hBC, H.l2, H.r2.keep hb hBC, H.l3, H.r3.keep hb hBC, H.l4, H.r4.keep hb hBC⟩
/-- What any letter handed in has: its texts and numbers are a machine's. -/
structure LtF (x : Lt) : Prop where
  f1 : ∀ s, s ∈ x.re → s.size ≤ maxLen
  f2 : ∀ y, y ∈ x.ws → y.fits
  f3 : ∀ y, y ∈ x.ls → y.fits
  f4 : ∀ y, y ∈ x.cs → y.fits
  m1 : x.re.length ≤ maxLen
  m2 : x.ws.length ≤ maxLen
  m3 : x.ls.length ≤ maxLen
  m4 : x.cs.length ≤ maxLen

def inB (n a b : Int) : Bool := decide (a ≤ n ∧ n ≤ b)
theorem inB_yes {n a b : Int} (h : inB n a b = true) : a ≤ n ∧ n ≤ b := of_decide_eq_true h
def headB (x : Lt) : Bool := inB x.k 1 4 && inB x.fr 0 11 && inB x.tt 0 11 && !(x.fr == x.tt) && inB x.li 1 1073741824 && inB x.tu 1 1048576
def zeroLa (x : Lt) : Bool := decide (x.la = [0, 0, 0, 0, 0, 0, 0, 0, 0, 0, 0, 0])
/-- Has it what its kind doesn't use? -/
def badUse (x : Lt) : Bool :=
  (decide (2 < x.k) && (x.pr != 0)) || ((x.k != 2) && ((x.lo != 0) || (x.fi != 0))) || (((x.k != 2) && (x.k != 3)) && ((x.st != 0) || decide (0 < x.ws.length)))
    || ((x.k != 3) && ((x.ta != 0) || (x.sr != 0) || (x.en != 0) || decide (0 < x.ls.length) || x.sn)) || ((x.k != 1) && decide (0 < x.re.length)) || (!x.sn && (decide (0 < x.cs.length) || !zeroLa x))
def numsB (x : Lt) : Bool := inB x.pr 0 4096 && inB x.lo 0 x.pr && inB x.en 0 4096 && inB x.sr 0 x.en && inB x.st 0 1099511627776 && inB x.ta 0 1099511627776 && inB x.fi 0 1099511627776
def linesB (x : Lt) : Bool := x.ls.all fun y => inB y.pl x.sr (x.en - 1)
noncomputable def tailB (x : Lt) : Bool := decide (x.ws.length ≤ 512) && goodAll x.ws && goodR (dL x.re) && goodLns x.ls && goodCls x.cs && goodLa x.la
noncomputable def goodLt (x : Lt) : Bool := headB x && !badUse x && numsB x && linesB x && tailB x
theorem kind_4 {x : Lt} (h : headB x = true) : x.k = 1 ∨ x.k = 2 ∨ x.k = 3 ∨ x.k = 4 := by
  unfold headB at h
  simp only [Bool.and_eq_true] at h
  have := inB_yes h.1.1.1.1.1
  omega
theorem nums_en {x : Lt} (h : numsB x = true) : (0 ≤ x.sr ∧ x.sr ≤ x.en) ∧ 0 ≤ x.en ∧ x.en ≤ 4096 := by
  unfold numsB at h
  simp only [Bool.and_eq_true] at h
  exact ⟨inB_yes h.1.1.1.2, inB_yes h.1.1.1.1.2⟩
end Go.Proofs.YtpjleeeligahaaaGreatDoor

namespace Go.Proofs.YtpjleeeligahaaaGreatDoor
open Go.RowKit

def snapB (x : Lt) : Bool := decide (0 < x.cs.length) || !zeroLa x
def outL (s e : Int) (y : Ln) : Bool := decide (y.pl < s) || decide (e ≤ y.pl)
def spansB (x : Lt) : Bool := decide (x.sr ≤ x.en) && !(x.ls.any (outL x.sr x.en))
def outN (v lo hi : Int) : Bool := decide (v < lo) || decide (hi < v)
/-- Its numbers, each with where it may be. -/
def numL (x : Lt) : List (Int × Int × Int) := [(x.fr, 0, 11), (x.tt, 0, 11), (x.li, 1, 1073741824), (x.tu, 1, 1048576), (x.pr, 0, 4096), (x.lo, 0, 4096), (x.fi, 0, 1099511627776), (x.st, 0, 1099511627776), (x.ta, 0, 1099511627776), (x.sr, 0, 4096), (x.en, 0, 4096)]
def outsB (x : Lt) : Bool := (numL x).any fun q => outN q.1 q.2.1 q.2.2
def someB (x : Lt) : Bool := (numL x).any fun q => q.1 != 0
noncomputable def listsB (x : Lt) : Bool := goodR (dL x.re) && (decide (x.ws.length ≤ 512) && goodAll x.ws) && goodLns x.ls && goodCls x.cs && goodLa x.la
def blankB (x : Lt) : Bool := !someB x && !x.sn && decide (x.re.length = 0) && decide (x.ws.length = 0) && decide (x.ls.length = 0) && !snapB x
/-- A letter without what every one has, and without what its kind uses. -/
def unU (x : Lt) : Lt :=
  let y : Lt := { x with fr := 0, tt := 0, li := 0, tu := 0 }
  if x.k = 1 then { y with pr := 0, re := [] }
  else if x.k = 2 then { y with pr := 0, lo := 0, fi := 0, st := 0, ws := [] }
  else if x.k = 3 then { y with st := 0, ta := 0, sr := 0, en := 0, ls := [], ws := [], sn := false, cs := [], a0 := 0, a1 := 0, a2 := 0, a3 := 0, a4 := 0, a5 := 0, a6 := 0, a7 := 0, a8 := 0, a9 := 0, a10 := 0, a11 := 0 }
  else y
noncomputable def codeB (x : Lt) : Bool :=
  (x.k != 3 || (spansB x && (x.sn || !snapB x))) && decide (1 ≤ x.k ∧ x.k ≤ 4) && !(x.fr == x.tt) && decide (x.lo ≤ x.pr) && !outsB x && listsB x && blankB (unU x)
theorem la_zero0 : decide (laL 0 0 0 0 0 0 0 0 0 0 0 0 = [0, 0, 0, 0, 0, 0, 0, 0, 0, 0, 0, 0]) = true := by decide
theorem inB_iff {n a b : Int} : inB n a b = true ↔ a ≤ n ∧ n ≤ b := decide_eq_true_iff
theorem outN_iff {v a b : Int} : outN v a b = false ↔ a ≤ v ∧ v ≤ b := by unfold outN; simp
theorem lines_out (x : Lt) : linesB x = !(x.ls.any (outL x.sr x.en)) := by
  unfold linesB
  rw [List.not_any_eq_all_not]
  congr 1
  funext y
  unfold inB outL
  rw [Bool.eq_iff_iff]
  simp
  omega
theorem outs_iff (x : Lt) : outsB x = false ↔ (0 ≤ x.fr ∧ x.fr ≤ 11) ∧ (0 ≤ x.tt ∧ x.tt ≤ 11) ∧ (1 ≤ x.li ∧ x.li ≤ 1073741824) ∧ (1 ≤ x.tu ∧ x.tu ≤ 1048576) ∧ (0 ≤ x.pr ∧ x.pr ≤ 4096) ∧ (0 ≤ x.lo ∧ x.lo ≤ 4096) ∧ (0 ≤ x.fi ∧ x.fi ≤ 1099511627776) ∧ (0 ≤ x.st ∧ x.st ≤ 1099511627776) ∧ (0 ≤ x.ta ∧ x.ta ≤ 1099511627776) ∧ (0 ≤ x.sr ∧ x.sr ≤ 4096) ∧ (0 ≤ x.en ∧ x.en ≤ 4096) := by
  unfold outsB numL
  simp only [List.any_cons, List.any_nil, Bool.or_eq_false_iff, outN_iff, and_true]
theorem some_iff (x : Lt) : someB x = false ↔ x.fr = 0 ∧ x.tt = 0 ∧ x.li = 0 ∧ x.tu = 0 ∧ x.pr = 0 ∧ x.lo = 0 ∧ x.fi = 0 ∧ x.st = 0 ∧ x.ta = 0 ∧ x.sr = 0 ∧ x.en = 0 := by
  unfold someB numL
  simp only [List.any_cons, List.any_nil, Bool.or_eq_false_iff, bne_eq_false_iff_eq, and_true]
theorem head_iff (x : Lt) : headB x = true ↔ (1 ≤ x.k ∧ x.k ≤ 4) ∧ (0 ≤ x.fr ∧ x.fr ≤ 11) ∧ (0 ≤ x.tt ∧ x.tt ≤ 11) ∧ ¬ x.fr = x.tt ∧ (1 ≤ x.li ∧ x.li ≤ 1073741824) ∧ (1 ≤ x.tu ∧ x.tu ≤ 1048576) := by
  unfold headB
  simp only [Bool.and_eq_true, inB_iff, Bool.not_eq_true', beq_eq_false_iff_ne, ne_eq, and_assoc]
theorem nums_iff (x : Lt) : numsB x = true ↔ (0 ≤ x.pr ∧ x.pr ≤ 4096) ∧ (0 ≤ x.lo ∧ x.lo ≤ x.pr) ∧ (0 ≤ x.en ∧ x.en ≤ 4096) ∧ (0 ≤ x.sr ∧ x.sr ≤ x.en) ∧ (0 ≤ x.st ∧ x.st ≤ 1099511627776) ∧ (0 ≤ x.ta ∧ x.ta ≤ 1099511627776) ∧ (0 ≤ x.fi ∧ x.fi ≤ 1099511627776) := by
  unfold numsB
  simp only [Bool.and_eq_true, inB_iff, and_assoc]
theorem use_iff (x : Lt) : badUse x = false ↔ (2 < x.k → x.pr = 0) ∧ (x.k ≠ 2 → x.lo = 0 ∧ x.fi = 0) ∧ (x.k ≠ 2 ∧ x.k ≠ 3 → x.st = 0 ∧ x.ws.length = 0) ∧ (x.k ≠ 3 → x.ta = 0 ∧ x.sr = 0 ∧ x.en = 0 ∧ x.ls.length = 0 ∧ x.sn = false) ∧ (x.k ≠ 1 → x.re.length = 0) ∧ (x.sn = false → x.cs.length = 0 ∧ zeroLa x = true) := by
  unfold badUse
  simp only [Bool.or_eq_false_iff, Bool.and_eq_false_imp, decide_eq_true_iff, bne_eq_false_iff_eq, decide_eq_false_iff_not, Bool.and_eq_true, bne_iff_ne, Bool.not_eq_true', Bool.not_eq_false', Nat.not_lt, Nat.le_zero, and_assoc]
theorem snap_iff (x : Lt) : snapB x = false ↔ x.cs.length = 0 ∧ zeroLa x = true := by
  unfold snapB
  simp only [Bool.or_eq_false_iff, decide_eq_false_iff_not, Nat.not_lt, Nat.le_zero, Bool.not_eq_false']
theorem blank_iff (x : Lt) : blankB x = true ↔ (x.fr = 0 ∧ x.tt = 0 ∧ x.li = 0 ∧ x.tu = 0 ∧ x.pr = 0 ∧ x.lo = 0 ∧ x.fi = 0 ∧ x.st = 0 ∧ x.ta = 0 ∧ x.sr = 0 ∧ x.en = 0) ∧ x.sn = false ∧ x.re.length = 0 ∧ x.ws.length = 0 ∧ x.ls.length = 0 ∧ x.cs.length = 0 ∧ zeroLa x = true := by
  unfold blankB
  simp only [Bool.and_eq_true, Bool.not_eq_true', some_iff, snap_iff, decide_eq_true_iff, and_assoc]
theorem tail_lists (x : Lt) : tailB x = listsB x := by
  unfold tailB listsB
  rw [Bool.eq_iff_iff]
  simp only [Bool.and_eq_true]
  constructor
  · rintro ⟨⟨⟨⟨⟨h1, h2⟩, h3⟩, h4⟩, h5⟩, h6⟩
    exact ⟨⟨⟨⟨h3, h1, h2⟩, h4⟩, h5⟩, h6⟩
  · rintro ⟨⟨⟨⟨h3, h1, h2⟩, h4⟩, h5⟩, h6⟩
    exact ⟨⟨⟨⟨⟨h1, h2⟩, h3⟩, h4⟩, h5⟩, h6⟩
theorem lines_none {x : Lt} (h : x.ls.length = 0) : linesB x = true := by
  unfold linesB
  rw [List.eq_nil_of_length_eq_zero h]
  rfl
theorem code_is (x : Lt) : codeB x = goodLt x := by
  unfold codeB goodLt
  rw [← tail_lists]
  cases tailB x with
  | false => simp
  | true =>
    rw [Bool.eq_iff_iff]
    simp only [Bool.and_eq_true, Bool.not_eq_true', head_iff, use_iff, nums_iff, outs_iff, blank_iff, decide_eq_true_iff, and_true, Bool.or_eq_true, bne_iff_ne, ne_eq, beq_eq_false_iff_ne]
    by_cases k1 : x.k = 1
    · have hz : zeroLa (unU x) = zeroLa x := by unfold unU; rw [if_pos k1]; rfl
      rw [hz]
      have hl := lines_none (x := x)
      rw [show unU x = _ from if_pos k1]
      simp only [k1]
      generalize linesB x = a at hl ⊢
      generalize zeroLa x = z
      generalize x.cs.length = n4
      generalize x.ls.length = n3 at hl ⊢
      generalize x.ws.length = n2
      generalize x.re.length = n1
      generalize x.sn = s
      cases s <;> cases z <;> cases a <;> (try simp at hl) <;> (try simp) <;> (try omega)
    · by_cases k2 : x.k = 2
      · have hz : zeroLa (unU x) = zeroLa x := by unfold unU; rw [if_neg k1, if_pos k2]; rfl
        rw [hz]
        have hl := lines_none (x := x)
        rw [show unU x = _ from (if_neg k1).trans (if_pos k2)]
        simp only [k2]
        generalize linesB x = a at hl ⊢
        generalize zeroLa x = z
        generalize x.cs.length = n4
        generalize x.ls.length = n3 at hl ⊢
        generalize x.ws.length = n2
        generalize x.re.length = n1
        generalize x.sn = s
        cases s <;> cases z <;> cases a <;> (try simp at hl) <;> (try simp) <;> (try omega)
      · by_cases k3 : x.k = 3
        · have hz : zeroLa (unU x) = true := by unfold unU; rw [if_neg k1, if_neg k2, if_pos k3]; exact la_zero0
          rw [hz]
          have hs : spansB x = true ↔ x.sr ≤ x.en ∧ linesB x = true := by unfold spansB; rw [lines_out, Bool.and_eq_true, decide_eq_true_iff]
          rw [hs, snap_iff]
          rw [show unU x = _ from (if_neg k1).trans ((if_neg k2).trans (if_pos k3))]
          simp only [k3]
          generalize linesB x = a
          generalize zeroLa x = z
          generalize x.cs.length = n4
          generalize x.ls.length = n3
          generalize x.ws.length = n2
          generalize x.re.length = n1
          generalize x.sn = s
          cases s <;> cases z <;> cases a <;> (try simp at hl) <;> (try simp) <;> (try omega)
        · have hz : zeroLa (unU x) = zeroLa x := by unfold unU; rw [if_neg k1, if_neg k2, if_neg k3]; rfl
          rw [hz]
          have hl := lines_none (x := x)
          rw [show unU x = _ from (if_neg k1).trans ((if_neg k2).trans (if_neg k3))]
          dsimp only
          generalize linesB x = a at hl ⊢
          generalize zeroLa x = z
          generalize x.cs.length = n4
          generalize x.ls.length = n3 at hl ⊢
          generalize x.ws.length = n2
          generalize x.re.length = n1
          generalize x.sn = s
          cases s <;> cases z <;> cases a <;> (try simp at hl) <;> (try simp) <;> (try omega)
end Go.Proofs.YtpjleeeligahaaaGreatDoor
