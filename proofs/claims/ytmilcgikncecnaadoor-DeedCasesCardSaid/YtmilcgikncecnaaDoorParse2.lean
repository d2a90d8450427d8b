/-
  WHAT IS PROVED: deed.Read of any text of at most 1000 bytes answers as the plain function readD does, where the library's variables hold what the program's text lays.
-/
import Derived.Test.YtmilcgikncecnaaDoorParse
import Derived.Test.YtmilcgikncecnaaDoorReadDMath
namespace Go.Proofs.YtmilcgikncecnaaDoor
open Go.RowKit

def pT : Option PV → Value
  | none => noT false
  | some p => opT p.1 ⟨p.2.1.toArray⟩ p.2.2.1.1 p.2.2.1.2.1 ⟨p.2.2.1.2.2.1.toArray⟩ p.2.2.2.1 p.2.2.2.2.1 ⟨p.2.2.2.2.2.1.toArray⟩ true
/-- An answer of two: an operation, an error's number. -/
abbrev opE (K : Int) (ky : ByteArray) (ka na : Int) (sa : ByteArray) (kb nb : Int) (sb : ByteArray) (e : Int) : Value := .tuple #[opV K ky ka na sa kb nb sb, .int .i64 e]
def rT : Option PV → Value
  | none => opE 0 ⟨#[]⟩ 0 0 ⟨#[]⟩ 0 0 ⟨#[]⟩ 2
  | some p => opE p.1 ⟨p.2.1.toArray⟩ p.2.2.1.1 p.2.2.1.2.1 ⟨p.2.2.1.2.2.1.toArray⟩ p.2.2.2.1 p.2.2.2.2.1 ⟨p.2.2.2.2.2.1.toArray⟩ 0

theorem read_call (p : ByteArray) (hp : p.size ≤ 1000) : Hid (∀ W : World, LaidV W → Calls Tryd.prog 45 #[.string p] W fun e W' => e = .returned (.tuple #[.agg #[.int .i64 (readV p.data.toList).1, .int .i64 (readV p.data.toList).2.1, .string ⟨(readV p.data.toList).2.2.1.toArray⟩], .int .i64 (readV p.data.toList).2.2.2]) ∧ Below W.heap.size W W') :=
  fun W h => read_any p W (by omega) h
theorem read_call0 (p : ByteArray) (hp : p.size ≤ 1000) (h0 : (readV p.data.toList).2.2.2 = 0) : Hid (∀ W : World, LaidV W → Calls Tryd.prog 45 #[.string p] W fun e W' => e = .returned (.tuple #[.agg #[.int .i64 (readV p.data.toList).1, .int .i64 (readV p.data.toList).2.1, .string ⟨(readV p.data.toList).2.2.1.toArray⟩], .int .i64 0]) ∧ Below W.heap.size W W') := by
  have := read_call p hp
  rw [h0] at this
  exact this
theorem back (p : ByteArray) : (⟨p.data.toList.toArray⟩ : ByteArray) = p := by simp

theorem parse_any (s : ByteArray) (w : World) (hs : s.size ≤ 1000) (hL : LaidD w) :
    Calls Tryd.prog 32 #[.string s] w fun e w' => e = .returned (pT (parseP s.data.toList)) ∧ Below w.heap.size w w' := by
  have hl : s.data.toList.length = s.size := Array.length_toList
  obtain ⟨ps, Hp⟩ : ∃ ps, Lib.splitB ⟨#[32]⟩ 0 (min 5 (s.size + 1) - 1) s = ps := ⟨_, rfl⟩
  have hd : ps.map (·.data.toList) = pieces 4 s.data.toList := by rw [← Hp]; exact split_data s
  have hn := pieces_len 4 s.data.toList
  have he := pieces_each 4 s.data.toList
  have hlen : ps.length = (pieces 4 s.data.toList).length := by rw [← hd, List.length_map]
  have hsz : ∀ p ∈ ps, p.size ≤ 1000 := by
    intro p hp
    have h1 : p.data.toList.length = p.size := Array.length_toList
    have h2 := he p.data.toList (by rw [← hd]; exact List.mem_map_of_mem hp)
    omega
  match ps, hd, hlen, hsz, Hp with
  | [], _, hlen, _, _ => simp at hlen; omega
  | [p0], hd, _, _, Hp =>
    have e : parseP s.data.toList = none := by unfold parseP; rw [← hd]; rfl
    rw [e]
    exact parse_bad s w hs hL [p0] p0 rfl Hp (by have := toldN_le (begunK p0.data.toList); show (1 : Nat) ≠ _; omega)
  | [p0, p1], hd, _, hsz, Hp =>
    by_cases h0 : toldN (begunK p0.data.toList) = 0
    · have e : parseP s.data.toList = some (begunK p0.data.toList, p1.data.toList, nilV, nilV) := by unfold parseP; rw [← hd]; exact if_pos h0
      rw [e]
      have hl2 := Lib.splitB_length_le ⟨#[32]⟩ 0 (min 5 (s.size + 1) - 1) s
      rw [Hp] at hl2
      simp only [List.length_cons, List.length_nil] at hl2
      simp only [pT, back, nilV]
      by_cases hc : min 5 (s.size + 1) = 2
      · exact parse2_okeq s w hs hL [p0, p1] p0 p1 rfl _ (hsz p1 (by simp)) hc Hp rfl h0
      · exact parse2_okgt s w hs hL [p0, p1] p0 p1 rfl _ (hsz p1 (by simp)) (by omega) Hp rfl h0
    · have e : parseP s.data.toList = none := by unfold parseP; rw [← hd]; exact if_neg h0
      rw [e]
      exact parse_bad s w hs hL [p0, p1] p0 rfl Hp (by show (2 : Nat) ≠ _; omega)
  | [p0, p1, p2], hd, _, hsz, Hp =>
    by_cases h0 : toldN (begunK p0.data.toList) = 1
    · by_cases h2 : (readV p2.data.toList).2.2.2 = 0
      · have e : parseP s.data.toList = some (begunK p0.data.toList, p1.data.toList, readV p2.data.toList, nilV) := by unfold parseP; rw [← hd]; exact if_pos ⟨h0, h2⟩
        rw [e]
        simp only [pT, back, nilV]
        exact parse3_ok s w hs hL [p0, p1, p2] p0 p1 p2 rfl _ _ _ _ (hsz p1 (by simp)) Hp rfl h0 (read_call0 p2 (hsz p2 (by simp)) h2)
      · have e : parseP s.data.toList = none := by unfold parseP; rw [← hd]; exact if_neg (fun x => h2 x.2)
        rw [e]
        exact parse3_e0 s w hs hL [p0, p1, p2] p0 p1 p2 rfl _ _ _ _ _ h2 (hsz p1 (by simp)) Hp rfl h0 (read_call p2 (hsz p2 (by simp)))
    · have e : parseP s.data.toList = none := by unfold parseP; rw [← hd]; exact if_neg (fun x => h0 x.1)
      rw [e]
      exact parse_bad s w hs hL [p0, p1, p2] p0 rfl Hp (by show (3 : Nat) ≠ _; omega)
  | [p0, p1, p2, p3], hd, _, hsz, Hp =>
    by_cases h0 : toldN (begunK p0.data.toList) = 2
    · by_cases h2 : (readV p2.data.toList).2.2.2 = 0
      · by_cases h3 : (readV p3.data.toList).2.2.2 = 0
        · have e : parseP s.data.toList = some (begunK p0.data.toList, p1.data.toList, readV p2.data.toList, readV p3.data.toList) := by unfold parseP; rw [← hd]; exact if_pos ⟨h0, h2, h3⟩
          rw [e]
          simp only [pT, back]
          exact parse4_ok s w hs hL [p0, p1, p2, p3] p0 p1 p2 p3 rfl _ _ _ _ _ _ _ (hsz p1 (by simp)) Hp rfl h0 (read_call0 p2 (hsz p2 (by simp)) h2) (read_call0 p3 (hsz p3 (by simp)) h3)
        · have e : parseP s.data.toList = none := by unfold parseP; rw [← hd]; exact if_neg (fun x => h3 x.2.2)
          rw [e]
          exact parse4_e1 s w hs hL [p0, p1, p2, p3] p0 p1 p2 p3 rfl _ _ _ _ _ _ _ _ h3 (hsz p1 (by simp)) Hp rfl h0 (read_call0 p2 (hsz p2 (by simp)) h2) (read_call p3 (hsz p3 (by simp)))
      · have e : parseP s.data.toList = none := by unfold parseP; rw [← hd]; exact if_neg (fun x => h2 x.2.1)
        rw [e]
        exact parse4_e0 s w hs hL [p0, p1, p2, p3] p0 p1 p2 p3 rfl _ _ _ _ _ h2 (hsz p1 (by simp)) Hp rfl h0 (read_call p2 (hsz p2 (by simp)))
    · have e : parseP s.data.toList = none := by unfold parseP; rw [← hd]; exact if_neg (fun x => h0 x.1)
      rw [e]
      exact parse_bad s w hs hL [p0, p1, p2, p3] p0 rfl Hp (by show (4 : Nat) ≠ _; omega)
  | [p0, p1, p2, p3, p4], hd, _, hsz, Hp =>
    have e : parseP s.data.toList = none := by unfold parseP; rw [← hd]; rfl
    rw [e]
    exact parse_bad s w hs hL [p0, p1, p2, p3, p4] p0 rfl Hp (by have := toldN_le (begunK p0.data.toList); show (5 : Nat) ≠ _; omega)
  | _ :: _ :: _ :: _ :: _ :: _ :: _, _, hlen, _, _ => simp at hlen; omega
end Go.Proofs.YtmilcgikncecnaaDoor
