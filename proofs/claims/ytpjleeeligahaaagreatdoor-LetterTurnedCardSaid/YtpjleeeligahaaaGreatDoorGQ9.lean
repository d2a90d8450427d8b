/-
  WHAT IS PROVED: the laws of XFast, Fast2, Fast3 once more, their side conditions as default arguments. Over this program · a letter's fields and cells as steps of a chain (Fast4). Over this program · letter.numbers, goodNumbers, snapped, blank answer what the plain words of LtCode say. Conditions: those typed in each theorem. · cell.Good answers what the document's Good does, goodB, for every value. No condition. · deed.Good answers what the document's Good does, opB, for every operation. Condition: the texts are no longer than the form's reach. · stamp.Good answers what the document's Good of a write does. Condition: the texts are no longer than the form's reach.
-/
import Derived.Test.YtpjleeeligahaaaGreatDoorGQ8
import Derived.Test.YtpjleeeligahaaaGreatDoorGQ7
import Derived.Deep.MidRow
import Derived.Deep.QuietTactic
import Derived.BigQuiet
import Derived.BigRegion
import Derived.Outline
import Derived.Test.YtpjleeeligahaaaGreatDoorGQ0
import Derived.WalkKit
import Derived.WalkSpells
import Derived.WalkLawsBesides
import Derived.Lib.Hide
import Derived.Test.YtpjleeeligahaaaGreatDoorGQ1
namespace Go.Proofs.YtpjleeeligahaaaGreatDoor
open Go.RowKit

section
variable {P : Program} {l : List Oper} {Q : Exit → Act → World → Prop} {rest : List Oper} {a0 : Act} {L : List (Nat × Bool × Value)} {w : World}
theorem run_bc {w : World} {op : BinOp} {x : Operand} {t ty ty2 : TypeId} {c v vi : Value} {d : Option Tmp} {p : String} {af : Array Edge} {gd : Option (Nat × Bool)} {ρ : Operand → Value} (h1 : ρ x = vi) (hr : ((do eqGuard op t x (.const c) vi c; binOp op t vi c) : Sem Value).run P w = .ok v w) (h2 : ρ (.const c) = c := by rfl) : (execOp ρ ⟨d, .binOp op t x (.const c) ty2, ty, p, af, gd⟩).run P w = .ok (.value v) w := by
  unfold execOp
  dsimp only
  rw [h1, h2, Sem.run_bind, hr]
  rfl
theorem run_cv {w : World} {x : Operand} {t t2 ty : TypeId} {v vi : Value} {d : Option Tmp} {p : String} {af : Array Edge} {gd : Option (Nat × Bool)} {ρ : Operand → Value} (h1 : ρ x = vi) (hr : (convert t t2 vi).run P w = .ok v w) : (execOp ρ ⟨d, .convert t t2 x, ty, p, af, gd⟩).run P w = .ok (.value v) w := by
  unfold execOp
  dsimp only
  rw [h1, Sem.run_bind, hr]
  rfl
theorem run_ex {w : World} {x : Operand} {k : Nat} {ty : TypeId} {v : Value} {cs : Array Value} {d : Option Tmp} {p : String} {af : Array Edge} {gd : Option (Nat × Bool)} {ρ : Operand → Value} (h1 : ρ x = .tuple cs) (hr : cs[k]? = some v) : (execOp ρ ⟨d, .extract x k, ty, p, af, gd⟩).run P w = .ok (.value v) w := by
  unfold execOp
  dsimp only
  rw [h1]
  simp [Instr.extract, hr]
theorem g_mv {d n : Nat} {i : Nat} {gi : Bool} {v : Value} {ty : TypeId} {p : String} {af : Array Edge} {gd : Option (Nat × Bool)} {g : Bool} (hn : a0.tmps.size = n)  (h : FL P l Q rest a0 ((d, g, v) :: L) w) (hd : Nat.blt d n = true := by rfl) (hw : wtG l L gd = some g := by rfl) (hli : lk L i = some (gi, v) := by rfl) (hsi : g = true → gi = true := by first | exact fun _ => rfl | exact id | exact and_l | exact fun h => and_l (and_l h) | exact fun h => and_l (and_l (and_l h)) | exact fun h => and_l (and_l (and_l (and_l h))) | exact fun h => and_l (and_l (and_l (and_l (and_l h))))) : FL P l Q (⟨some d, .move (.tmp i), ty, p, af, gd⟩ :: rest) a0 L w := fl_move hn hd hw hli hsi h
theorem g_as {d n : Nat} {i : Nat} {gi : Bool} {v : Value} {ty : TypeId} {p : String} {af : Array Edge} {gd : Option (Nat × Bool)} {g : Bool} (hn : a0.tmps.size = n)  (h : FL P l Q rest a0 ((d, g, v) :: L) w) (hd : Nat.blt d n = true := by rfl) (hw : wtG l L gd = some g := by rfl) (hli : lk L i = some (gi, v) := by rfl) (hsi : g = true → gi = true := by first | exact fun _ => rfl | exact id | exact and_l | exact fun h => and_l (and_l h) | exact fun h => and_l (and_l (and_l h)) | exact fun h => and_l (and_l (and_l (and_l h))) | exact fun h => and_l (and_l (and_l (and_l (and_l h))))) : FL P l Q (⟨some d, .assign (.tmp i), ty, p, af, gd⟩ :: rest) a0 L w := fl_assign hn hd hw hli hsi h
theorem g_nc {d n : Nat} {i : Nat} {gi : Bool} {ad : Addr} {ty : TypeId} {p : String} {af : Array Edge} {gd : Option (Nat × Bool)} {g : Bool} (hn : a0.tmps.size = n)  (h : FL P l Q rest a0 ((d, g, (.pointer (some ad))) :: L) w) (hd : Nat.blt d n = true := by rfl) (hw : wtG l L gd = some g := by rfl) (hli : lk L i = some (gi, .pointer (some ad)) := by rfl) (hsi : g = true → gi = true := by first | exact fun _ => rfl | exact id | exact and_l | exact fun h => and_l (and_l h) | exact fun h => and_l (and_l (and_l h)) | exact fun h => and_l (and_l (and_l (and_l h))) | exact fun h => and_l (and_l (and_l (and_l (and_l h))))) : FL P l Q (⟨some d, .nilCheck (.tmp i), ty, p, af, gd⟩ :: rest) a0 L w := fl_nilc hn hd hw hli hsi h
theorem g_nt {d n : Nat} {i : Nat} {ty2 : TypeId} {gi b : Bool} {ty : TypeId} {p : String} {af : Array Edge} {gd : Option (Nat × Bool)} {g : Bool} (hn : a0.tmps.size = n)  (h : FL P l Q rest a0 ((d, g, (.bool !b)) :: L) w) (hd : Nat.blt d n = true := by rfl) (hw : wtG l L gd = some g := by rfl) (hli : lk L i = some (gi, .bool b) := by rfl) (hsi : g = true → gi = true := by first | exact fun _ => rfl | exact id | exact and_l | exact fun h => and_l (and_l h) | exact fun h => and_l (and_l (and_l h)) | exact fun h => and_l (and_l (and_l (and_l h))) | exact fun h => and_l (and_l (and_l (and_l (and_l h))))) : FL P l Q (⟨some d, .unOp .not ty2 (.tmp i), ty, p, af, gd⟩ :: rest) a0 L w := fl_not hn hd hw hli hsi h
theorem g_or {d n : Nat} {i c : Nat} {gi gc b b2 : Bool} {ty : TypeId} {p : String} {af : Array Edge} {gd : Option (Nat × Bool)} {g : Bool} (hn : a0.tmps.size = n)  (h : FL P l Q rest a0 ((d, g, (.bool (b || b2))) :: L) w) (hd : Nat.blt d n = true := by rfl) (hw : wtG l L gd = some g := by rfl) (hlc : lk L c = some (gc, .bool b) := by rfl) (hsc : g = true → gc = true := by first | exact fun _ => rfl | exact id | exact and_l | exact fun h => and_l (and_l h) | exact fun h => and_l (and_l (and_l h)) | exact fun h => and_l (and_l (and_l (and_l h))) | exact fun h => and_l (and_l (and_l (and_l (and_l h))))) (hl2 : lk L i = some (gi, .bool b2) := by rfl) (hs2 : g = true → b = false → gi = true := by (intro h1 h2; first | rfl | (rw [h1, h2]; rfl) | simp_all)) : FL P l Q (⟨some d, .pick (.tmp c) (.const (.bool true)) (.tmp i), ty, p, af, gd⟩ :: rest) a0 L w := fl_or hn hd hw hlc hsc hl2 hs2 h
theorem g_an {d n : Nat} {i c : Nat} {gi gc b b2 : Bool} {ty : TypeId} {p : String} {af : Array Edge} {gd : Option (Nat × Bool)} {g : Bool} (hn : a0.tmps.size = n)  (h : FL P l Q rest a0 ((d, g, (.bool (b && b2))) :: L) w) (hd : Nat.blt d n = true := by rfl) (hw : wtG l L gd = some g := by rfl) (hlc : lk L c = some (gc, .bool b) := by rfl) (hsc : g = true → gc = true := by first | exact fun _ => rfl | exact id | exact and_l | exact fun h => and_l (and_l h) | exact fun h => and_l (and_l (and_l h)) | exact fun h => and_l (and_l (and_l (and_l h))) | exact fun h => and_l (and_l (and_l (and_l (and_l h))))) (hl2 : lk L i = some (gi, .bool b2) := by rfl) (hs2 : g = true → b = true → gi = true := by (intro h1 h2; first | rfl | (rw [h1, h2]; rfl) | simp_all)) : FL P l Q (⟨some d, .pick (.tmp c) (.tmp i) (.const (.bool false)), ty, p, af, gd⟩ :: rest) a0 L w := fl_and hn hd hw hlc hsc hl2 hs2 h
theorem g_fd {d n : Nat} {i f : Nat} {t : TypeId} {gi : Bool} {ad ad2 : Addr} {ty : TypeId} {p : String} {af : Array Edge} {gd : Option (Nat × Bool)} {g : Bool} (hn : a0.tmps.size = n)  (h : FL P l Q rest a0 ((d, g, (.pointer (some ad2))) :: L) w) (hd : Nat.blt d n = true := by rfl) (hw : wtG l L gd = some g := by rfl) (hli : lk L i = some (gi, .pointer (some ad)) := by rfl) (hsi : g = true → gi = true := by first | exact fun _ => rfl | exact id | exact and_l | exact fun h => and_l (and_l h) | exact fun h => and_l (and_l (and_l h)) | exact fun h => and_l (and_l (and_l (and_l h))) | exact fun h => and_l (and_l (and_l (and_l (and_l h))))) (hr : (Instr.fieldAt t (.pointer (some ad)) f).run P w = .ok (.pointer (some ad2)) w := by with_reducible assumption) : FL P l Q (⟨some d, .fieldAddr t (.tmp i) f, ty, p, af, gd⟩ :: rest) a0 L w := fl_field hn hd hw hli hsi hr h
theorem g_ld {d n : Nat} {i : Nat} {t : TypeId} {gi : Bool} {ad : Addr} {v : Value} {ty : TypeId} {p : String} {af : Array Edge} {gd : Option (Nat × Bool)} {g : Bool} (hn : a0.tmps.size = n)  (h : FL P l Q rest a0 ((d, g, v) :: L) w) (hd : Nat.blt d n = true := by rfl) (hw : wtG l L gd = some g := by rfl) (hli : lk L i = some (gi, .pointer (some ad)) := by rfl) (hsi : g = true → gi = true := by first | exact fun _ => rfl | exact id | exact and_l | exact fun h => and_l (and_l h) | exact fun h => and_l (and_l (and_l h)) | exact fun h => and_l (and_l (and_l (and_l h))) | exact fun h => and_l (and_l (and_l (and_l (and_l h))))) (hr : (Instr.loadAt t (.pointer (some ad))).run P w = .ok v w := by with_reducible assumption) : FL P l Q (⟨some d, .load t (.tmp i), ty, p, af, gd⟩ :: rest) a0 L w := fl_load hn hd hw hli hsi hr h
theorem g_b0 {d n : Nat} {t : TypeId} {v : Value} {ty : TypeId} {p : String} {af : Array Edge} {gd : Option (Nat × Bool)} {g : Bool} (hn : a0.tmps.size = n)  (h : FL P l Q rest a0 ((d, g, v) :: L) w) (hd : Nat.blt d n = true := by rfl) (hw : wtG l L gd = some g := by rfl) (hr : (Instr.build t #[]).run P w = .ok v w := by with_reducible assumption) : FL P l Q (⟨some d, .build t #[], ty, p, af, gd⟩ :: rest) a0 L w := fl_build0 hn hd hw hr h
theorem g_bn {d n : Nat} {op : BinOp} {i j : Nat} {t ty2 : TypeId} {gi gj : Bool} {vi vj v : Value} {ty : TypeId} {p : String} {af : Array Edge} {gd : Option (Nat × Bool)} {g : Bool} (hn : a0.tmps.size = n)  (h : FL P l Q rest a0 ((d, g, v) :: L) w) (hd : Nat.blt d n = true := by rfl) (hw : wtG l L gd = some g := by rfl) (hli : lk L i = some (gi, vi) := by rfl) (hsi : g = true → gi = true := by first | exact fun _ => rfl | exact id | exact and_l | exact fun h => and_l (and_l h) | exact fun h => and_l (and_l (and_l h)) | exact fun h => and_l (and_l (and_l (and_l h))) | exact fun h => and_l (and_l (and_l (and_l (and_l h))))) (hlj : lk L j = some (gj, vj) := by rfl) (hsj : g = true → gj = true := by first | exact fun _ => rfl | exact id | exact and_l | exact fun h => and_l (and_l h) | exact fun h => and_l (and_l (and_l h)) | exact fun h => and_l (and_l (and_l (and_l h))) | exact fun h => and_l (and_l (and_l (and_l (and_l h))))) (hr : ((do eqGuard op t (.tmp i) (.tmp j) vi vj; binOp op t vi vj) : Sem Value).run P w = .ok v w := by with_reducible assumption) : FL P l Q (⟨some d, .binOp op t (.tmp i) (.tmp j) ty2, ty, p, af, gd⟩ :: rest) a0 L w := fl_bin hn hd hw hli hsi hlj hsj hr h
theorem g_bc {d n : Nat} {op : BinOp} {i : Nat} {t ty2 : TypeId} {gi : Bool} {vi c v : Value} {ty : TypeId} {p : String} {af : Array Edge} {gd : Option (Nat × Bool)} {g : Bool} (hn : a0.tmps.size = n)  (h : FL P l Q rest a0 ((d, g, v) :: L) w) (hd : Nat.blt d n = true := by rfl) (hw : wtG l L gd = some g := by rfl) (hli : lk L i = some (gi, vi) := by rfl) (hsi : g = true → gi = true := by first | exact fun _ => rfl | exact id | exact and_l | exact fun h => and_l (and_l h) | exact fun h => and_l (and_l (and_l h)) | exact fun h => and_l (and_l (and_l (and_l h))) | exact fun h => and_l (and_l (and_l (and_l (and_l h))))) (hr : ((do eqGuard op t (.tmp i) (.const c) vi c; binOp op t vi c) : Sem Value).run P w = .ok v w := by with_reducible assumption) : FL P l Q (⟨some d, .binOp op t (.tmp i) (.const c) ty2, ty, p, af, gd⟩ :: rest) a0 L w := fl_op hn rfl hd hw (fun hk hg => run_bc (lk_at hk hli hsi hg) hr) h
theorem g_cv {d n : Nat} {i : Nat} {t t2 : TypeId} {gi : Bool} {vi v : Value} {ty : TypeId} {p : String} {af : Array Edge} {gd : Option (Nat × Bool)} {g : Bool} (hn : a0.tmps.size = n)  (h : FL P l Q rest a0 ((d, g, v) :: L) w) (hd : Nat.blt d n = true := by rfl) (hw : wtG l L gd = some g := by rfl) (hli : lk L i = some (gi, vi) := by rfl) (hsi : g = true → gi = true := by first | exact fun _ => rfl | exact id | exact and_l | exact fun h => and_l (and_l h) | exact fun h => and_l (and_l (and_l h)) | exact fun h => and_l (and_l (and_l (and_l h))) | exact fun h => and_l (and_l (and_l (and_l (and_l h))))) (hr : (convert t t2 vi).run P w = .ok v w := by with_reducible assumption) : FL P l Q (⟨some d, .convert t t2 (.tmp i), ty, p, af, gd⟩ :: rest) a0 L w := fl_op hn rfl hd hw (fun hk hg => run_cv (lk_at hk hli hsi hg) hr) h
theorem g_ex {d n : Nat} {i k : Nat} {gi : Bool} {cs : Array Value} {v : Value} {ty : TypeId} {p : String} {af : Array Edge} {gd : Option (Nat × Bool)} {g : Bool} (hn : a0.tmps.size = n)  (h : FL P l Q rest a0 ((d, g, v) :: L) w) (hd : Nat.blt d n = true := by rfl) (hw : wtG l L gd = some g := by rfl) (hli : lk L i = some (gi, .tuple cs) := by rfl) (hsi : g = true → gi = true := by first | exact fun _ => rfl | exact id | exact and_l | exact fun h => and_l (and_l h) | exact fun h => and_l (and_l (and_l h)) | exact fun h => and_l (and_l (and_l (and_l h))) | exact fun h => and_l (and_l (and_l (and_l (and_l h))))) (hr : cs[k]? = some v := by rfl) : FL P l Q (⟨some d, .extract (.tmp i) k, ty, p, af, gd⟩ :: rest) a0 L w := fl_op hn rfl hd hw (fun hk hg => run_ex (lk_at hk hli hsi hg) hr) h
theorem g_ac {d n : Nat} {v : Value} {ty : TypeId} {p : String} {af : Array Edge} {gd : Option (Nat × Bool)} {g : Bool} (hn : a0.tmps.size = n)  (h : FL P l Q rest a0 ((d, g, v) :: L) w) (hd : Nat.blt d n = true := by rfl) (hw : wtG l L gd = some g := by rfl)  : FL P l Q (⟨some d, .assign (.const v), ty, p, af, gd⟩ :: rest) a0 L w := fl_op hn rfl hd hw (fun _ _ => rfl) h
theorem g_mc {d n : Nat} {v : Value} {ty : TypeId} {p : String} {af : Array Edge} {gd : Option (Nat × Bool)} {g : Bool} (hn : a0.tmps.size = n)  (h : FL P l Q rest a0 ((d, g, v) :: L) w) (hd : Nat.blt d n = true := by rfl) (hw : wtG l L gd = some g := by rfl)  : FL P l Q (⟨some d, .move (.const v), ty, p, af, gd⟩ :: rest) a0 L w := fl_op hn rfl hd hw (fun _ _ => rfl) h
theorem g_stc {i b j : Nat} {t ty T : TypeId} {v : Value} {p : String} {af : Array Edge} {gd : Option (Nat × Bool)} {cs : Array Value} (hX : Blk w b cs T) (hr : (Instr.storeAt t (.pointer (some ⟨b, j, none⟩)) v).run P w = .ok () (w.setCell ⟨b, j, none⟩ v)) (h : ∀ w2, Only1 b w w2 → Blk w2 b (cs.setIfInBounds j v) T → FL P l Q rest a0 L w2) (hw : wtG l L gd = some true := by rfl) (hl : lk L i = some (true, .pointer (some ⟨b, j, none⟩)) := by rfl) : FL P l Q (⟨none, .store t (.tmp i) (.const v), ty, p, af, gd⟩ :: rest) a0 L w := fl_stc hw hl hX hr h
theorem g_stt {i k b j : Nat} {g : Bool} {t ty T : TypeId} {v : Value} {p : String} {af : Array Edge} {gd : Option (Nat × Bool)} {cs : Array Value} (hX : Blk w b cs T) (hr : (Instr.storeAt t (.pointer (some ⟨b, j, none⟩)) v).run P w = .ok () (w.setCell ⟨b, j, none⟩ v)) (h : ∀ w2, Only1 b w w2 → Blk w2 b (cs.setIfInBounds j v) T → FL P l Q rest a0 L w2) (hw : wtG l L gd = some true := by rfl) (hl : lk L i = some (true, .pointer (some ⟨b, j, none⟩)) := by rfl) (hl2 : lk L k = some (g, v) := by rfl) (hg : g = true := by rfl) : FL P l Q (⟨none, .store t (.tmp i) (.tmp k), ty, p, af, gd⟩ :: rest) a0 L w := fl_stt hw hl hl2 hg hX hr h
theorem g_stm {i k b j : Nat} {g : Bool} {t ty T : TypeId} {c : Array Value} {p : String} {af : Array Edge} {gd : Option (Nat × Bool)} {cs : Array Value} (hX : Blk w b cs T) (h : ∀ w2, Only1 b w w2 → Blk w2 b (setL cs j c.toList) T → FL P l Q rest a0 L w2) (hw : wtG l L gd = some true := by rfl) (hl : lk L i = some (true, .pointer (some ⟨b, j, none⟩)) := by rfl) (hl2 : lk L k = some (g, .agg c) := by rfl) (hg : g = true := by rfl) (hs : j + c.size ≤ cs.size := by simp) (hi : (P.info? t).map (·.size) = some c.size := by kernel_rfl) (h1 : c.all (·.oneCell') = true := by rfl) : FL P l Q (⟨none, .store t (.tmp i) (.tmp k), ty, p, af, gd⟩ :: rest) a0 L w := fl_stm hw hl hl2 hg hX hs hi h1 h
theorem g_str {i k b : Nat} {g : Bool} {t ty T : TypeId} {c : Array Value} {p : String} {af : Array Edge} {gd : Option (Nat × Bool)} {cs : Array Value} (hX : Blk w b cs T) (h : ∀ w2, Only1 b w w2 → Blk w2 b c T → FL P l Q rest a0 L w2) (hw : wtG l L gd = some true := by rfl) (hl : lk L i = some (true, .pointer (some ⟨b, 0, none⟩)) := by rfl) (hl2 : lk L k = some (g, .agg c) := by rfl) (hg : g = true := by rfl) (hs : cs.size = c.size := by rfl) (hi : (P.info? t).map (·.size) = some c.size := by kernel_rfl) (h1 : c.all (·.oneCell') = true := by rfl) : FL P l Q (⟨none, .store t (.tmp i) (.tmp k), ty, p, af, gd⟩ :: rest) a0 L w := fl_str hw hl hl2 hg hX hs hi h1 h
end
section
variable {l : List Oper} {Q : Exit → Act → World → Prop} {rest : List Oper} {a0 : Act} {L : List (Nat × Bool × Value)} {w : World}
theorem g_neq {d n : Nat} {i : Nat} {m k : Int} {ty2 : TypeId} {gi : Bool} {ty : TypeId} {p : String} {af : Array Edge} {gd : Option (Nat × Bool)} {g : Bool} (hn : a0.tmps.size = n)  (h : FL Tryz.prog l Q rest a0 ((d, g, (.bool (m != k))) :: L) w) (hd : Nat.blt d n = true := by rfl) (hw : wtG l L gd = some g := by rfl) (hli : lk L i = some (gi, .int .i64 m) := by rfl) (hsi : g = true → gi = true := by first | exact fun _ => rfl | exact id | exact and_l | exact fun h => and_l (and_l h) | exact fun h => and_l (and_l (and_l h)) | exact fun h => and_l (and_l (and_l (and_l h))) | exact fun h => and_l (and_l (and_l (and_l (and_l h))))) : FL Tryz.prog l Q (⟨some d, .binOp .neq 3 (.tmp i) (.const (.int .i64 k)) ty2, ty, p, af, gd⟩ :: rest) a0 L w := fl_neq hn hd hw hli hsi h
theorem g_neq2 {d n : Nat} {i j : Nat} {m k : Int} {ty2 : TypeId} {gi gj : Bool} {ty : TypeId} {p : String} {af : Array Edge} {gd : Option (Nat × Bool)} {g : Bool} (hn : a0.tmps.size = n)  (h : FL Tryz.prog l Q rest a0 ((d, g, (.bool (m != k))) :: L) w) (hd : Nat.blt d n = true := by rfl) (hw : wtG l L gd = some g := by rfl) (hli : lk L i = some (gi, .int .i64 m) := by rfl) (hsi : g = true → gi = true := by first | exact fun _ => rfl | exact id | exact and_l | exact fun h => and_l (and_l h) | exact fun h => and_l (and_l (and_l h)) | exact fun h => and_l (and_l (and_l (and_l h))) | exact fun h => and_l (and_l (and_l (and_l (and_l h))))) (hlj : lk L j = some (gj, .int .i64 k) := by rfl) (hsj : g = true → gj = true := by first | exact fun _ => rfl | exact id | exact and_l | exact fun h => and_l (and_l h) | exact fun h => and_l (and_l (and_l h)) | exact fun h => and_l (and_l (and_l (and_l h))) | exact fun h => and_l (and_l (and_l (and_l (and_l h))))) : FL Tryz.prog l Q (⟨some d, .binOp .neq 3 (.tmp i) (.tmp j) ty2, ty, p, af, gd⟩ :: rest) a0 L w := fl_neq2 hn hd hw hli hsi hlj hsj h
theorem g_gtr {d n : Nat} {i : Nat} {m k : Int} {ty2 : TypeId} {gi : Bool} {ty : TypeId} {p : String} {af : Array Edge} {gd : Option (Nat × Bool)} {g : Bool} (hn : a0.tmps.size = n)  (h : FL Tryz.prog l Q rest a0 ((d, g, (.bool (decide (k < m)))) :: L) w) (hd : Nat.blt d n = true := by rfl) (hw : wtG l L gd = some g := by rfl) (hli : lk L i = some (gi, .int .i64 m) := by rfl) (hsi : g = true → gi = true := by first | exact fun _ => rfl | exact id | exact and_l | exact fun h => and_l (and_l h) | exact fun h => and_l (and_l (and_l h)) | exact fun h => and_l (and_l (and_l (and_l h))) | exact fun h => and_l (and_l (and_l (and_l (and_l h))))) : FL Tryz.prog l Q (⟨some d, .binOp .gtr 3 (.tmp i) (.const (.int .i64 k)) ty2, ty, p, af, gd⟩ :: rest) a0 L w := fl_gtr hn hd hw hli hsi h
theorem g_gtr2 {d n : Nat} {i j : Nat} {m k : Int} {ty2 : TypeId} {gi gj : Bool} {ty : TypeId} {p : String} {af : Array Edge} {gd : Option (Nat × Bool)} {g : Bool} (hn : a0.tmps.size = n)  (h : FL Tryz.prog l Q rest a0 ((d, g, (.bool (decide (k < m)))) :: L) w) (hd : Nat.blt d n = true := by rfl) (hw : wtG l L gd = some g := by rfl) (hli : lk L i = some (gi, .int .i64 m) := by rfl) (hsi : g = true → gi = true := by first | exact fun _ => rfl | exact id | exact and_l | exact fun h => and_l (and_l h) | exact fun h => and_l (and_l (and_l h)) | exact fun h => and_l (and_l (and_l (and_l h))) | exact fun h => and_l (and_l (and_l (and_l (and_l h))))) (hlj : lk L j = some (gj, .int .i64 k) := by rfl) (hsj : g = true → gj = true := by first | exact fun _ => rfl | exact id | exact and_l | exact fun h => and_l (and_l h) | exact fun h => and_l (and_l (and_l h)) | exact fun h => and_l (and_l (and_l (and_l h))) | exact fun h => and_l (and_l (and_l (and_l (and_l h))))) : FL Tryz.prog l Q (⟨some d, .binOp .gtr 3 (.tmp i) (.tmp j) ty2, ty, p, af, gd⟩ :: rest) a0 L w := fl_gtr2 hn hd hw hli hsi hlj hsj h
theorem g_eql {d n : Nat} {i : Nat} {m k : Int} {ty2 : TypeId} {gi : Bool} {ty : TypeId} {p : String} {af : Array Edge} {gd : Option (Nat × Bool)} {g : Bool} (hn : a0.tmps.size = n)  (h : FL Tryz.prog l Q rest a0 ((d, g, (.bool (m == k))) :: L) w) (hd : Nat.blt d n = true := by rfl) (hw : wtG l L gd = some g := by rfl) (hli : lk L i = some (gi, .int .i64 m) := by rfl) (hsi : g = true → gi = true := by first | exact fun _ => rfl | exact id | exact and_l | exact fun h => and_l (and_l h) | exact fun h => and_l (and_l (and_l h)) | exact fun h => and_l (and_l (and_l (and_l h))) | exact fun h => and_l (and_l (and_l (and_l (and_l h))))) : FL Tryz.prog l Q (⟨some d, .binOp .eql 3 (.tmp i) (.const (.int .i64 k)) ty2, ty, p, af, gd⟩ :: rest) a0 L w := fl_eql hn hd hw hli hsi h
theorem g_eql2 {d n : Nat} {i j : Nat} {m k : Int} {ty2 : TypeId} {gi gj : Bool} {ty : TypeId} {p : String} {af : Array Edge} {gd : Option (Nat × Bool)} {g : Bool} (hn : a0.tmps.size = n)  (h : FL Tryz.prog l Q rest a0 ((d, g, (.bool (m == k))) :: L) w) (hd : Nat.blt d n = true := by rfl) (hw : wtG l L gd = some g := by rfl) (hli : lk L i = some (gi, .int .i64 m) := by rfl) (hsi : g = true → gi = true := by first | exact fun _ => rfl | exact id | exact and_l | exact fun h => and_l (and_l h) | exact fun h => and_l (and_l (and_l h)) | exact fun h => and_l (and_l (and_l (and_l h))) | exact fun h => and_l (and_l (and_l (and_l (and_l h))))) (hlj : lk L j = some (gj, .int .i64 k) := by rfl) (hsj : g = true → gj = true := by first | exact fun _ => rfl | exact id | exact and_l | exact fun h => and_l (and_l h) | exact fun h => and_l (and_l (and_l h)) | exact fun h => and_l (and_l (and_l (and_l h))) | exact fun h => and_l (and_l (and_l (and_l (and_l h))))) : FL Tryz.prog l Q (⟨some d, .binOp .eql 3 (.tmp i) (.tmp j) ty2, ty, p, af, gd⟩ :: rest) a0 L w := fl_eql2 hn hd hw hli hsi hlj hsj h
theorem g_leq {d n : Nat} {i : Nat} {m k : Int} {ty2 : TypeId} {gi : Bool} {ty : TypeId} {p : String} {af : Array Edge} {gd : Option (Nat × Bool)} {g : Bool} (hn : a0.tmps.size = n)  (h : FL Tryz.prog l Q rest a0 ((d, g, (.bool (decide (m ≤ k)))) :: L) w) (hd : Nat.blt d n = true := by rfl) (hw : wtG l L gd = some g := by rfl) (hli : lk L i = some (gi, .int .i64 m) := by rfl) (hsi : g = true → gi = true := by first | exact fun _ => rfl | exact id | exact and_l | exact fun h => and_l (and_l h) | exact fun h => and_l (and_l (and_l h)) | exact fun h => and_l (and_l (and_l (and_l h))) | exact fun h => and_l (and_l (and_l (and_l (and_l h))))) : FL Tryz.prog l Q (⟨some d, .binOp .leq 3 (.tmp i) (.const (.int .i64 k)) ty2, ty, p, af, gd⟩ :: rest) a0 L w := fl_leq hn hd hw hli hsi h
theorem g_leq2 {d n : Nat} {i j : Nat} {m k : Int} {ty2 : TypeId} {gi gj : Bool} {ty : TypeId} {p : String} {af : Array Edge} {gd : Option (Nat × Bool)} {g : Bool} (hn : a0.tmps.size = n)  (h : FL Tryz.prog l Q rest a0 ((d, g, (.bool (decide (m ≤ k)))) :: L) w) (hd : Nat.blt d n = true := by rfl) (hw : wtG l L gd = some g := by rfl) (hli : lk L i = some (gi, .int .i64 m) := by rfl) (hsi : g = true → gi = true := by first | exact fun _ => rfl | exact id | exact and_l | exact fun h => and_l (and_l h) | exact fun h => and_l (and_l (and_l h)) | exact fun h => and_l (and_l (and_l (and_l h))) | exact fun h => and_l (and_l (and_l (and_l (and_l h))))) (hlj : lk L j = some (gj, .int .i64 k) := by rfl) (hsj : g = true → gj = true := by first | exact fun _ => rfl | exact id | exact and_l | exact fun h => and_l (and_l h) | exact fun h => and_l (and_l (and_l h)) | exact fun h => and_l (and_l (and_l (and_l h))) | exact fun h => and_l (and_l (and_l (and_l (and_l h))))) : FL Tryz.prog l Q (⟨some d, .binOp .leq 3 (.tmp i) (.tmp j) ty2, ty, p, af, gd⟩ :: rest) a0 L w := fl_leq2 hn hd hw hli hsi hlj hsj h
theorem g_lss {d n : Nat} {i : Nat} {m k : Int} {ty2 : TypeId} {gi : Bool} {ty : TypeId} {p : String} {af : Array Edge} {gd : Option (Nat × Bool)} {g : Bool} (hn : a0.tmps.size = n)  (h : FL Tryz.prog l Q rest a0 ((d, g, (.bool (decide (m < k)))) :: L) w) (hd : Nat.blt d n = true := by rfl) (hw : wtG l L gd = some g := by rfl) (hli : lk L i = some (gi, .int .i64 m) := by rfl) (hsi : g = true → gi = true := by first | exact fun _ => rfl | exact id | exact and_l | exact fun h => and_l (and_l h) | exact fun h => and_l (and_l (and_l h)) | exact fun h => and_l (and_l (and_l (and_l h))) | exact fun h => and_l (and_l (and_l (and_l (and_l h))))) : FL Tryz.prog l Q (⟨some d, .binOp .lss 3 (.tmp i) (.const (.int .i64 k)) ty2, ty, p, af, gd⟩ :: rest) a0 L w := fl_lss hn hd hw hli hsi h
theorem g_lss2 {d n : Nat} {i j : Nat} {m k : Int} {ty2 : TypeId} {gi gj : Bool} {ty : TypeId} {p : String} {af : Array Edge} {gd : Option (Nat × Bool)} {g : Bool} (hn : a0.tmps.size = n)  (h : FL Tryz.prog l Q rest a0 ((d, g, (.bool (decide (m < k)))) :: L) w) (hd : Nat.blt d n = true := by rfl) (hw : wtG l L gd = some g := by rfl) (hli : lk L i = some (gi, .int .i64 m) := by rfl) (hsi : g = true → gi = true := by first | exact fun _ => rfl | exact id | exact and_l | exact fun h => and_l (and_l h) | exact fun h => and_l (and_l (and_l h)) | exact fun h => and_l (and_l (and_l (and_l h))) | exact fun h => and_l (and_l (and_l (and_l (and_l h))))) (hlj : lk L j = some (gj, .int .i64 k) := by rfl) (hsj : g = true → gj = true := by first | exact fun _ => rfl | exact id | exact and_l | exact fun h => and_l (and_l h) | exact fun h => and_l (and_l (and_l h)) | exact fun h => and_l (and_l (and_l (and_l h))) | exact fun h => and_l (and_l (and_l (and_l (and_l h))))) : FL Tryz.prog l Q (⟨some d, .binOp .lss 3 (.tmp i) (.tmp j) ty2, ty, p, af, gd⟩ :: rest) a0 L w := fl_lss2 hn hd hw hli hsi hlj hsj h
theorem g_geq {d n : Nat} {i : Nat} {m k : Int} {ty2 : TypeId} {gi : Bool} {ty : TypeId} {p : String} {af : Array Edge} {gd : Option (Nat × Bool)} {g : Bool} (hn : a0.tmps.size = n)  (h : FL Tryz.prog l Q rest a0 ((d, g, (.bool (decide (k ≤ m)))) :: L) w) (hd : Nat.blt d n = true := by rfl) (hw : wtG l L gd = some g := by rfl) (hli : lk L i = some (gi, .int .i64 m) := by rfl) (hsi : g = true → gi = true := by first | exact fun _ => rfl | exact id | exact and_l | exact fun h => and_l (and_l h) | exact fun h => and_l (and_l (and_l h)) | exact fun h => and_l (and_l (and_l (and_l h))) | exact fun h => and_l (and_l (and_l (and_l (and_l h))))) : FL Tryz.prog l Q (⟨some d, .binOp .geq 3 (.tmp i) (.const (.int .i64 k)) ty2, ty, p, af, gd⟩ :: rest) a0 L w := fl_geq hn hd hw hli hsi h
theorem g_geq2 {d n : Nat} {i j : Nat} {m k : Int} {ty2 : TypeId} {gi gj : Bool} {ty : TypeId} {p : String} {af : Array Edge} {gd : Option (Nat × Bool)} {g : Bool} (hn : a0.tmps.size = n)  (h : FL Tryz.prog l Q rest a0 ((d, g, (.bool (decide (k ≤ m)))) :: L) w) (hd : Nat.blt d n = true := by rfl) (hw : wtG l L gd = some g := by rfl) (hli : lk L i = some (gi, .int .i64 m) := by rfl) (hsi : g = true → gi = true := by first | exact fun _ => rfl | exact id | exact and_l | exact fun h => and_l (and_l h) | exact fun h => and_l (and_l (and_l h)) | exact fun h => and_l (and_l (and_l (and_l h))) | exact fun h => and_l (and_l (and_l (and_l (and_l h))))) (hlj : lk L j = some (gj, .int .i64 k) := by rfl) (hsj : g = true → gj = true := by first | exact fun _ => rfl | exact id | exact and_l | exact fun h => and_l (and_l h) | exact fun h => and_l (and_l (and_l h)) | exact fun h => and_l (and_l (and_l (and_l h))) | exact fun h => and_l (and_l (and_l (and_l (and_l h))))) : FL Tryz.prog l Q (⟨some d, .binOp .geq 3 (.tmp i) (.tmp j) ty2, ty, p, af, gd⟩ :: rest) a0 L w := fl_geq2 hn hd hw hli hsi hlj hsj h
theorem g_ln {d n : Nat} {i m c : Nat} {A : Option Addr} {ts : Array TypeId} {gi : Bool} {ty : TypeId} {p : String} {af : Array Edge} {gd : Option (Nat × Bool)} {g : Bool} (hn : a0.tmps.size = n)  (h : FL Tryz.prog l Q rest a0 ((d, g, (.int .i64 m)) :: L) w) (hd : Nat.blt d n = true := by rfl) (hw : wtG l L gd = some g := by rfl) (hli : lk L i = some (gi, .slice A m c) := by rfl) (hsi : g = true → gi = true := by first | exact fun _ => rfl | exact id | exact and_l | exact fun h => and_l (and_l h) | exact fun h => and_l (and_l (and_l h)) | exact fun h => and_l (and_l (and_l (and_l h))) | exact fun h => and_l (and_l (and_l (and_l (and_l h))))) (hr : (Builtin.len_ ts ty #[.slice A m c]).run Tryz.prog w = .ok (.int .i64 m) w := by kernel_rfl) : FL Tryz.prog l Q (⟨some d, .call { callee := .builtin .len, args := #[.tmp i], argTypes := ts }, ty, p, af, gd⟩ :: rest) a0 L w := fl_len hn hd hw hli hsi hr h
theorem g_c1w {f : FuncId} {i0 d n : Nat} {v0 r : Value} {ts : Array TypeId} {ty : TypeId} {p : String} {af : Array Edge} {gd : Option (Nat × Bool)} {g g0 : Bool} (he : ∀ args w, (callFunc f args).run Tryz.prog w = .ok (.enter f args) w) (hn : a0.tmps.size = n) (hc : Calls Tryz.prog f #[v0] w fun e w' => e = .returned r ∧ Below w.heap.size w w') (h : ∀ w2, Below w.heap.size w w2 → FL Tryz.prog l Q rest a0 ((d, g, r) :: L) w2) (hd : Nat.blt d n = true := by rfl) (hw : wtG l L gd = some g := by rfl) (hl0 : lk L i0 = some (g0, v0) := by rfl) (hs0 : g = true → g0 = true := by first | exact fun _ => rfl | exact id | exact and_l | exact fun h => and_l (and_l h) | exact fun h => and_l (and_l (and_l h)) | exact fun h => and_l (and_l (and_l (and_l h))) | exact fun h => and_l (and_l (and_l (and_l (and_l h))))) : FL Tryz.prog l Q (⟨some d, .call { callee := .value (.func f), args := #[.tmp i0], argTypes := ts }, ty, p, af, gd⟩ :: rest) a0 L w :=
  fl_call1w he hn hd hw hl0 hs0 (fun _ => hc) h
theorem g_c1x {f : FuncId} {i0 d n : Nat} {v0 : Value} {R : Value → World → Prop} {ts : Array TypeId} {ty : TypeId} {p : String} {af : Array Edge} {gd : Option (Nat × Bool)} {g0 : Bool} (he : ∀ args w, (callFunc f args).run Tryz.prog w = .ok (.enter f args) w) (hn : a0.tmps.size = n) (hc : Calls Tryz.prog f #[v0] w fun e w' => ∃ v, e = .returned v ∧ R v w') (h : ∀ v w2, R v w2 → FL Tryz.prog l Q rest a0 ((d, true, v) :: L) w2) (hd : Nat.blt d n = true := by rfl) (hw : wtG l L gd = some true := by rfl) (hl0 : lk L i0 = some (g0, v0) := by rfl) (hs0 : g0 = true := by rfl) : FL Tryz.prog l Q (⟨some d, .call { callee := .value (.func f), args := #[.tmp i0], argTypes := ts }, ty, p, af, gd⟩ :: rest) a0 L w :=
  fl_call1x he hn hd hw hl0 hs0 hc h
theorem g_c2w {f : FuncId} {i0 i1 d n : Nat} {v0 v1 r : Value} {ts : Array TypeId} {ty : TypeId} {p : String} {af : Array Edge} {gd : Option (Nat × Bool)} {g g0 g1 : Bool} (he : ∀ args w, (callFunc f args).run Tryz.prog w = .ok (.enter f args) w) (hn : a0.tmps.size = n) (hc : Calls Tryz.prog f #[v0, v1] w fun e w' => e = .returned r ∧ Below w.heap.size w w') (h : ∀ w2, Below w.heap.size w w2 → FL Tryz.prog l Q rest a0 ((d, g, r) :: L) w2) (hd : Nat.blt d n = true := by rfl) (hw : wtG l L gd = some g := by rfl) (hl0 : lk L i0 = some (g0, v0) := by rfl) (hs0 : g = true → g0 = true := by first | exact fun _ => rfl | exact id | exact and_l | exact fun h => and_l (and_l h) | exact fun h => and_l (and_l (and_l h)) | exact fun h => and_l (and_l (and_l (and_l h))) | exact fun h => and_l (and_l (and_l (and_l (and_l h))))) (hl1 : lk L i1 = some (g1, v1) := by rfl) (hs1 : g = true → g1 = true := by first | exact fun _ => rfl | exact id | exact and_l | exact fun h => and_l (and_l h) | exact fun h => and_l (and_l (and_l h)) | exact fun h => and_l (and_l (and_l (and_l h))) | exact fun h => and_l (and_l (and_l (and_l (and_l h))))) : FL Tryz.prog l Q (⟨some d, .call { callee := .value (.func f), args := #[.tmp i0, .tmp i1], argTypes := ts }, ty, p, af, gd⟩ :: rest) a0 L w :=
  fl_call2w he hn hd hw hl0 hs0 hl1 hs1 (fun _ => hc) h
theorem g_c2x {f : FuncId} {i0 i1 d n : Nat} {v0 v1 : Value} {R : Value → World → Prop} {ts : Array TypeId} {ty : TypeId} {p : String} {af : Array Edge} {gd : Option (Nat × Bool)} {g0 g1 : Bool} (he : ∀ args w, (callFunc f args).run Tryz.prog w = .ok (.enter f args) w) (hn : a0.tmps.size = n) (hc : Calls Tryz.prog f #[v0, v1] w fun e w' => ∃ v, e = .returned v ∧ R v w') (h : ∀ v w2, R v w2 → FL Tryz.prog l Q rest a0 ((d, true, v) :: L) w2) (hd : Nat.blt d n = true := by rfl) (hw : wtG l L gd = some true := by rfl) (hl0 : lk L i0 = some (g0, v0) := by rfl) (hs0 : g0 = true := by rfl) (hl1 : lk L i1 = some (g1, v1) := by rfl) (hs1 : g1 = true := by rfl) : FL Tryz.prog l Q (⟨some d, .call { callee := .value (.func f), args := #[.tmp i0, .tmp i1], argTypes := ts }, ty, p, af, gd⟩ :: rest) a0 L w :=
  fl_call2x he hn hd hw hl0 hs0 hl1 hs1 hc h
end
end Go.Proofs.YtpjleeeligahaaaGreatDoor

namespace Go.Proofs.YtpjleeeligahaaaGreatDoor
open Go.RowKit

/-- A letter's cells, with their types. -/
def ltC (x : Lt) (h : Hn) (j : Nat) : Option (TypeId × Value) := match j with
  | 0 => some (3, .int .i64 x.k)
  | 1 => some (3, .int .i64 x.fr)
  | 2 => some (3, .int .i64 x.tt)
  | 3 => some (3, .int .i64 x.li)
  | 4 => some (3, .int .i64 x.tu)
  | 5 => some (3, .int .i64 x.pr)
  | 6 => some (3, .int .i64 x.lo)
  | 7 => some (3, .int .i64 x.fi)
  | 8 => some (3, .int .i64 x.st)
  | 9 => some (3, .int .i64 x.ta)
  | 10 => some (3, .int .i64 x.sr)
  | 11 => some (3, .int .i64 x.en)
  | 12 => some (4, .bool x.sn)
  | 13 => some (53, .slice h.A1 h.n1 h.c1)
  | 14 => some (37, .slice h.A2 h.n2 h.c2)
  | 15 => some (22, .slice h.A3 h.n3 h.c3)
  | 16 => some (54, .slice h.A4 h.n4 h.c4)
  | 17 => some (56, .agg (laI x.a0 x.a1 x.a2 x.a3 x.a4 x.a5 x.a6 x.a7 x.a8 x.a9 x.a10 x.a11))
  | _ => none
section
variable {l : List Oper} {Q : Exit → Act → World → Prop} {rest : List Oper} {a0 : Act} {L : List (Nat × Bool × Value)} {w : World} {b : Nat} {x : Lt} {h : Hn}
theorem lc_at {j : Nat} {t : TypeId} {v : Value} (hX : Blk w b (ltI x h) 58) (hv : ltC x h j = some (t, v)) : (Instr.loadAt t (.pointer (some ⟨b, j, none⟩))).run Tryz.prog w = .ok v w := by
  match j, hv with
  | 0, hv => cases hv; exact lc_l0 hX
  | 1, hv => cases hv; exact lc_l1 hX
  | 2, hv => cases hv; exact lc_l2 hX
  | 3, hv => cases hv; exact lc_l3 hX
  | 4, hv => cases hv; exact lc_l4 hX
  | 5, hv => cases hv; exact lc_l5 hX
  | 6, hv => cases hv; exact lc_l6 hX
  | 7, hv => cases hv; exact lc_l7 hX
  | 8, hv => cases hv; exact lc_l8 hX
  | 9, hv => cases hv; exact lc_l9 hX
  | 10, hv => cases hv; exact lc_l10 hX
  | 11, hv => cases hv; exact lc_l11 hX
  | 12, hv => cases hv; exact lc_l12 hX
  | 13, hv => cases hv; exact lc_l13 hX
  | 14, hv => cases hv; exact lc_l14 hX
  | 15, hv => cases hv; exact lc_l15 hX
  | 16, hv => cases hv; exact lc_l16 hX
  | 17, hv => cases hv; exact lc_l17 hX
theorem lc_ad {f : Nat} (hf : Nat.blt f 18 = true) : (Instr.fieldAt 58 (.pointer (some ⟨b, 0, none⟩)) f).run Tryz.prog w = .ok (.pointer (some ⟨b, f, none⟩)) w := by
  match f, hf with
  | 0, _ => exact lc_a0 w b
  | 1, _ => exact lc_a1 w b
  | 2, _ => exact lc_a2 w b
  | 3, _ => exact lc_a3 w b
  | 4, _ => exact lc_a4 w b
  | 5, _ => exact lc_a5 w b
  | 6, _ => exact lc_a6 w b
  | 7, _ => exact lc_a7 w b
  | 8, _ => exact lc_a8 w b
  | 9, _ => exact lc_a9 w b
  | 10, _ => exact lc_a10 w b
  | 11, _ => exact lc_a11 w b
  | 12, _ => exact lc_a12 w b
  | 13, _ => exact lc_a13 w b
  | 14, _ => exact lc_a14 w b
  | 15, _ => exact lc_a15 w b
  | 16, _ => exact lc_a16 w b
  | 17, _ => exact lc_a17 w b
theorem g_fdL {i f d n : Nat} {ty : TypeId} {p : String} {af : Array Edge} {gd : Option (Nat × Bool)} {g gi : Bool} (hn : a0.tmps.size = n) (k : FL Tryz.prog l Q rest a0 ((d, g, (.pointer (some ⟨b, f, none⟩))) :: L) w) (hd : Nat.blt d n = true := by rfl) (hw : wtG l L gd = some g := by rfl) (hl : lk L i = some (gi, .pointer (some ⟨b, 0, none⟩)) := by rfl) (hs : g = true → gi = true := by first | exact fun _ => rfl | exact id | exact and_l | exact fun h => and_l (and_l h) | exact fun h => and_l (and_l (and_l h)) | exact fun h => and_l (and_l (and_l (and_l h))) | exact fun h => and_l (and_l (and_l (and_l (and_l h))))) (hf : Nat.blt f 18 = true := by rfl) : FL Tryz.prog l Q (⟨some d, .fieldAddr 58 (.tmp i) f, ty, p, af, gd⟩ :: rest) a0 L w := fl_field hn hd hw hl hs (lc_ad hf) k
theorem g_ldL {i j d n : Nat} {t ty : TypeId} {p : String} {af : Array Edge} {gd : Option (Nat × Bool)} {g gi : Bool} {v : Value} (hn : a0.tmps.size = n) (hX : Blk w b (ltI x h) 58) (k : FL Tryz.prog l Q rest a0 ((d, g, v) :: L) w) (hd : Nat.blt d n = true := by rfl) (hw : wtG l L gd = some g := by rfl) (hl : lk L i = some (gi, .pointer (some ⟨b, j, none⟩)) := by rfl) (hs : g = true → gi = true := by first | exact fun _ => rfl | exact id | exact and_l | exact fun h => and_l (and_l h) | exact fun h => and_l (and_l (and_l h)) | exact fun h => and_l (and_l (and_l (and_l h))) | exact fun h => and_l (and_l (and_l (and_l (and_l h))))) (hv : ltC x h j = some (t, v) := by rfl) : FL Tryz.prog l Q (⟨some d, .load t (.tmp i), ty, p, af, gd⟩ :: rest) a0 L w := fl_load hn hd hw hl hs (lc_at hX hv) k
theorem g_ldA {i d n : Nat} {ty : TypeId} {p : String} {af : Array Edge} {gd : Option (Nat × Bool)} {g gi : Bool} (hn : a0.tmps.size = n) (hX : Blk w b (ltI x h) 58) (k : FL Tryz.prog l Q rest a0 ((d, g, .agg (ltI x h)) :: L) w) (hd : Nat.blt d n = true := by rfl) (hw : wtG l L gd = some g := by rfl) (hl : lk L i = some (gi, .pointer (some ⟨b, 0, none⟩)) := by rfl) (hs : g = true → gi = true := by first | exact fun _ => rfl | exact id | exact and_l | exact fun h => and_l (and_l h) | exact fun h => and_l (and_l (and_l h)) | exact fun h => and_l (and_l (and_l (and_l h))) | exact fun h => and_l (and_l (and_l (and_l (and_l h))))) : FL Tryz.prog l Q (⟨some d, .load 58 (.tmp i), ty, p, af, gd⟩ :: rest) a0 L w := fl_load hn hd hw hl hs (lc_all hX) k
end
end Go.Proofs.YtpjleeeligahaaaGreatDoor

namespace Go.Proofs.YtpjleeeligahaaaGreatDoor
open Go.RowKit

/-- The numbers of the letter at block b. -/
def nmL (b : Nat) : List Nm := [⟨b, 1, 0, 11⟩, ⟨b, 2, 0, 11⟩, ⟨b, 3, 1, 1073741824⟩, ⟨b, 4, 1, 1048576⟩, ⟨b, 5, 0, 4096⟩, ⟨b, 6, 0, 4096⟩, ⟨b, 7, 0, 1099511627776⟩, ⟨b, 8, 0, 1099511627776⟩, ⟨b, 9, 0, 1099511627776⟩, ⟨b, 10, 0, 4096⟩, ⟨b, 11, 0, 4096⟩]
/-- A letter's number by its cell. -/
def nmV (x : Lt) (j : Nat) : Int := match j with
  | 1 => x.fr
  | 2 => x.tt
  | 3 => x.li
  | 4 => x.tu
  | 5 => x.pr
  | 6 => x.lo
  | 7 => x.fi
  | 8 => x.st
  | 9 => x.ta
  | 10 => x.sr
  | 11 => x.en
  | _ => 0
theorem nm_outs (x : Lt) (b : Nat) : ((nmL b).any fun q => outN (nmV x q.j) q.lo q.hi) = outsB x := rfl
theorem nm_some (x : Lt) (b : Nat) : ((nmL b).any fun q => nmV x q.j != 0) = someB x := rfl
theorem nm_cell {W : World} {b : Nat} {x : Lt} {h : Hn} (hX : Blk W b (ltI x h) 58) : ∀ q, q ∈ nmL b → W.cell? ⟨q.b, q.j, none⟩ = some (.int .i64 (nmV x q.j)) := by
  intro q hq
  unfold nmL at hq
  simp only [List.mem_cons, List.not_mem_nil, or_false] at hq
  rcases hq with rfl | rfl | rfl | rfl | rfl | rfl | rfl | rfl | rfl | rfl | rfl <;> exact hX.cell _
abbrev nmC (b : Nat) : Array Value := #[.pointer (some ⟨b, 1, none⟩), .int .i64 0, .int .i64 11, .pointer (some ⟨b, 2, none⟩), .int .i64 0, .int .i64 11, .pointer (some ⟨b, 3, none⟩), .int .i64 1, .int .i64 1073741824, .pointer (some ⟨b, 4, none⟩), .int .i64 1, .int .i64 1048576, .pointer (some ⟨b, 5, none⟩), .int .i64 0, .int .i64 4096, .pointer (some ⟨b, 6, none⟩), .int .i64 0, .int .i64 4096, .pointer (some ⟨b, 7, none⟩), .int .i64 0, .int .i64 1099511627776, .pointer (some ⟨b, 8, none⟩), .int .i64 0, .int .i64 1099511627776, .pointer (some ⟨b, 9, none⟩), .int .i64 0, .int .i64 1099511627776, .pointer (some ⟨b, 10, none⟩), .int .i64 0, .int .i64 4096, .pointer (some ⟨b, 11, none⟩), .int .i64 0, .int .i64 4096]
theorem nm_rd {W : World} {c b : Nat} {t : TypeId} (hC : Blk W c (nmC b) t) : RdX 3 (c + 1) W (some ⟨c, 0, none⟩) ((nmL b).map Nm.cells) := by
  intro k cs hk
  refine ⟨_, rfl, Nat.lt_succ_self _, fun j v hv => ?_⟩
  have hcell : ∀ i u, (nmC b)[i]? = some u → W.cell? ((⟨c, 0, none⟩ : Addr).add i) = some u := fun i u hu => by
    have e : (Addr.mk c 0 none).add i = Addr.mk c i none := by
      cases i with
      | zero => rfl
      | succ i => show Addr.mk c (0 + (i + 1)) none = _; rw [Nat.zero_add]
    rw [e]
    exact (hC.cell i).trans hu
  apply hcell
  have hk' : k < 11 := by have := (List.getElem?_eq_some_iff.1 hk).1; simpa [nmL] using this
  have hs : cs.size = 3 ∨ True := .inr trivial
  match k, hk' with
  | 0, _ =>
    cases hk
    match j, hv with
    | 0, hv => exact hv
    | 1, hv => exact hv
    | 2, hv => exact hv
    | (n + 3), hv => simp at hv
  | 1, _ =>
    cases hk
    match j, hv with
    | 0, hv => exact hv
    | 1, hv => exact hv
    | 2, hv => exact hv
    | (n + 3), hv => simp at hv
  | 2, _ =>
    cases hk
    match j, hv with
    | 0, hv => exact hv
    | 1, hv => exact hv
    | 2, hv => exact hv
    | (n + 3), hv => simp at hv
  | 3, _ =>
    cases hk
    match j, hv with
    | 0, hv => exact hv
    | 1, hv => exact hv
    | 2, hv => exact hv
    | (n + 3), hv => simp at hv
  | 4, _ =>
    cases hk
    match j, hv with
    | 0, hv => exact hv
    | 1, hv => exact hv
    | 2, hv => exact hv
    | (n + 3), hv => simp at hv
  | 5, _ =>
    cases hk
    match j, hv with
    | 0, hv => exact hv
    | 1, hv => exact hv
    | 2, hv => exact hv
    | (n + 3), hv => simp at hv
  | 6, _ =>
    cases hk
    match j, hv with
    | 0, hv => exact hv
    | 1, hv => exact hv
    | 2, hv => exact hv
    | (n + 3), hv => simp at hv
  | 7, _ =>
    cases hk
    match j, hv with
    | 0, hv => exact hv
    | 1, hv => exact hv
    | 2, hv => exact hv
    | (n + 3), hv => simp at hv
  | 8, _ =>
    cases hk
    match j, hv with
    | 0, hv => exact hv
    | 1, hv => exact hv
    | 2, hv => exact hv
    | (n + 3), hv => simp at hv
  | 9, _ =>
    cases hk
    match j, hv with
    | 0, hv => exact hv
    | 1, hv => exact hv
    | 2, hv => exact hv
    | (n + 3), hv => simp at hv
  | 10, _ =>
    cases hk
    match j, hv with
    | 0, hv => exact hv
    | 1, hv => exact hv
    | 2, hv => exact hv
    | (n + 3), hv => simp at hv

set_option maxRecDepth 100000 in
set_option maxHeartbeats 4000000 in
theorem numbers_any (b : Nat) (w : World) : Calls Tryz.prog 91 #[.pointer (some ⟨b, 0, none⟩)] w fun e w' => ∃ c, e = .returned (.slice (some ⟨c, 0, none⟩) 11 11) ∧ w.heap.size ≤ c ∧ (∃ t, Blk w' c (nmC b) t) ∧ Below w.heap.size w w' := by
  go_enter Tryz.func91, Tryz.ntmps91
  go_wp2_with fail
  go_region
  all_goals go_wp2_with fail
  all_goals go_ret
  all_goals exact ⟨_, rfl, Nat.le_refl _, ⟨_, blk_new _ _ _⟩, (Below.refl _ _).drew.alloc (Nat.le_refl _) _⟩

set_option maxRecDepth 100000 in
set_option maxHeartbeats 2000000 in
theorem out1_any (b j : Nat) (v lo hi : Int) (w : World) (hc : w.cell? ⟨b, j, none⟩ = some (.int .i64 v)) : Calls Tryz.prog 89 #[.agg #[.pointer (some ⟨b, j, none⟩), .int .i64 lo, .int .i64 hi]] w fun e w' => e = .returned (.bool (outN v lo hi)) ∧ Below w.heap.size w w' := by
  have hlt : b < w.heap.size := by
    rcases Nat.lt_or_ge b w.heap.size with h | h
    · exact h
    · simp [World.cell?, Array.getElem?_eq_none h] at hc
  go_enter Tryz.func89, Tryz.ntmps89
  go_upto_region 1 with fail
  have hB := b0 w (.cells #[.pointer (some ⟨b, j, none⟩), .int .i64 lo, .int .i64 hi] 145)
  have hY := blk_new w #[.pointer (some ⟨b, j, none⟩), .int .i64 lo, .int .i64 hi] 145
  have hc2 : (w.alloc (.cells #[.pointer (some ⟨b, j, none⟩), .int .i64 lo, .int .i64 hi] 145)).cell? ⟨b, j, none⟩ = some (.int .i64 v) := (bcell hB).1 _ _ hlt |>.trans hc
  generalize w.alloc (.cells #[.pointer (some ⟨b, j, none⟩), .int .i64 lo, .int .i64 hi] 145) = W at hB hY hc2 ⊢
  generalize hg : w.heap.size = g at hB hY ⊢
  obtain ⟨y0, y1, y2, -⟩ := hY.c3
  clear hY
  by_cases h1 : v < lo
  · have d1 : decide (v < lo) = true := decide_eq_true h1
    have R : Hid (outN v lo hi = true) := by show _ = _; unfold outN; rw [d1]; rfl
    clear h1
    go_quiet (fail)
    go_wp2_with fail
    go_ret
    exact ⟨ret_bool R.out.symm, hg ▸ bdn hB _⟩
  · have d1 : decide (v < lo) = false := decide_eq_false h1
    by_cases h2 : hi < v
    · have d2 : decide (hi < v) = true := decide_eq_true h2
      have R : Hid (outN v lo hi = true) := by show _ = _; unfold outN; rw [d1, d2]; rfl
      clear h1 h2
      go_quiet (fail)
      go_wp2_with fail
      go_ret
      exact ⟨ret_bool R.out.symm, hg ▸ bdn hB _⟩
    · have d2 : decide (hi < v) = false := decide_eq_false h2
      have R : Hid (outN v lo hi = false) := by show _ = _; unfold outN; rw [d1, d2]; rfl
      clear h1 h2
      go_quiet (fail)
      go_wp2_with fail
      go_ret
      exact ⟨ret_bool R.out.symm, hg ▸ bdn hB _⟩
set_option maxRecDepth 100000 in
set_option maxHeartbeats 2000000 in
theorem some1_any (b j : Nat) (v lo hi : Int) (w : World) (hc : w.cell? ⟨b, j, none⟩ = some (.int .i64 v)) : Calls Tryz.prog 96 #[.agg #[.pointer (some ⟨b, j, none⟩), .int .i64 lo, .int .i64 hi]] w fun e w' => e = .returned (.bool (v != 0)) ∧ Below w.heap.size w w' := by
  have hlt : b < w.heap.size := by
    rcases Nat.lt_or_ge b w.heap.size with h | h
    · exact h
    · simp [World.cell?, Array.getElem?_eq_none h] at hc
  go_enter Tryz.func96, Tryz.ntmps96
  go_upto_region 1 with fail
  have hB := b0 w (.cells #[.pointer (some ⟨b, j, none⟩), .int .i64 lo, .int .i64 hi] 145)
  have hY := blk_new w #[.pointer (some ⟨b, j, none⟩), .int .i64 lo, .int .i64 hi] 145
  have hc2 : (w.alloc (.cells #[.pointer (some ⟨b, j, none⟩), .int .i64 lo, .int .i64 hi] 145)).cell? ⟨b, j, none⟩ = some (.int .i64 v) := (bcell hB).1 _ _ hlt |>.trans hc
  generalize w.alloc (.cells #[.pointer (some ⟨b, j, none⟩), .int .i64 lo, .int .i64 hi] 145) = W at hB hY hc2 ⊢
  generalize hg : w.heap.size = g at hB hY ⊢
  obtain ⟨y0, y1, y2, -⟩ := hY.c3
  clear hY
  go_wp2_with fail
  go_ret
  exact ⟨ret_bool (by first | rfl | simp), hg ▸ hB⟩

/-! goodNumbers, snapped, blank. -/
def NumR (w : World) (b : Nat) (v : Value) (w' : World) : Prop := ∃ c, v = .slice (some ⟨c, 0, none⟩) 11 11 ∧ w.heap.size ≤ c ∧ (∃ t, Blk w' c (nmC b) t) ∧ Below w.heap.size w w'
theorem numbers_x (b : Nat) (w : World) : Calls Tryz.prog 91 #[.pointer (some ⟨b, 0, none⟩)] w fun e w' => ∃ v, e = .returned v ∧ NumR w b v w' :=
  (numbers_any b w).mono fun _ _ ⟨c, he, h⟩ => ⟨_, he, c, rfl, h⟩
theorem enters_numbers : ∀ args w, (callFunc 91 args).run Tryz.prog w = .ok (.enter 91 args) w := enters_of Tryz.func91 (by kernel_rfl) rfl
theorem enters_out1 : ∀ args w, (callFunc 89 args).run Tryz.prog w = .ok (.enter 89 args) w := enters_of Tryz.func89 (by kernel_rfl) rfl
theorem enters_some1 : ∀ args w, (callFunc 96 args).run Tryz.prog w = .ok (.enter 96 args) w := enters_of Tryz.func96 (by kernel_rfl) rfl
theorem enters_contN : ∀ args w, (callFunc 90 args).run Tryz.prog w = .ok (.enter 90 args) w := enters_of Tryz.func90 (by kernel_rfl) rfl
theorem enters_snapped : ∀ args w, (callFunc 42 args).run Tryz.prog w = .ok (.enter 42 args) w := enters_of Tryz.func42 (by kernel_rfl) rfl
theorem enters_goodNumbers : ∀ args w, (callFunc 43 args).run Tryz.prog w = .ok (.enter 43 args) w := enters_of Tryz.func43 (by kernel_rfl) rfl
theorem enters_blank : ∀ args w, (callFunc 45 args).run Tryz.prog w = .ok (.enter 45 args) w := enters_of Tryz.func45 (by kernel_rfl) rfl

theorem pred_out {w : World} {b : Nat} {x : Lt} {h : Hn} (hX : Blk w b (ltI x h) 58) : PredX Nm.cells 89 #[] (fun q => outN (nmV x q.j) q.lo q.hi) (nmL b) w :=
  fun q hq W hB => out1_any q.b q.j _ q.lo q.hi W (nm_cell (hX.keep hB) q hq)
theorem pred_some {w : World} {b : Nat} {x : Lt} {h : Hn} (hX : Blk w b (ltI x h) 58) : PredX Nm.cells 96 #[] (fun q => nmV x q.j != 0) (nmL b) w :=
  fun q hq W hB => some1_any q.b q.j _ q.lo q.hi W (nm_cell (hX.keep hB) q hq)
theorem cont_out {w : World} {b c : Nat} {t : TypeId} {x : Lt} {h : Hn} (hX : Blk w b (ltI x h) 58) (hC : Blk w c (nmC b) t) :
    Calls Tryz.prog 90 #[.slice (some ⟨c, 0, none⟩) 11 11, .func (.func 89) #[] #[]] w fun e w' => e = .returned (.bool (outsB x)) ∧ Below w.heap.size w w' := by
  rw [← nm_outs x b]
  exact contN_any _ #[] enters_out1 _ _ 11 11 (nmL b) w rfl ((nm_rd hC).more hC.lt) (by unfold maxLen; omega) (pred_out hX)
theorem cont_some {w : World} {b c : Nat} {t : TypeId} {x : Lt} {h : Hn} (hX : Blk w b (ltI x h) 58) (hC : Blk w c (nmC b) t) :
    Calls Tryz.prog 90 #[.slice (some ⟨c, 0, none⟩) 11 11, .func (.func 96) #[] #[]] w fun e w' => e = .returned (.bool (someB x)) ∧ Below w.heap.size w w' := by
  rw [← nm_some x b]
  exact contN_any _ #[] enters_some1 _ _ 11 11 (nmL b) w rfl ((nm_rd hC).more hC.lt) (by unfold maxLen; omega) (pred_some hX)

set_option maxRecDepth 100000 in
set_option maxHeartbeats 2000000 in
theorem goodNumbers_any (x : Lt) (h : Hn) (w : World) : Calls Tryz.prog 43 #[.agg (ltI x h)] w fun e w' => e = .returned (.bool (!outsB x)) ∧ Below w.heap.size w w' := by
  go_enter Tryz.func43, Tryz.ntmps43
  go_upto_region 1 with fail
  have hX := blk_new w (ltI x h) 58
  have hB := b0 w (.cells (ltI x h) 58)
  generalize w.alloc (.cells (ltI x h) 58) = W at hX hB ⊢
  generalize hb : w.heap.size = b at hX hB ⊢
  have HX := Lib.hid hX
  clear hX
  go_upto_region 2 with fail
  refine wp_region_lit ?_
  refine fl_start ?_
  generalize ha : Act.mk _ _ = a0
  have hn : a0.tmps.size = 8 := by rw [← ha]; kernel_rfl
  have h1 : (fr a0 []).eval (.tmp 1) = .pointer (some ⟨b, 0, none⟩) := by rw [← ha]; kernel_rfl
  refine fl_know hn rfl h1 ?_
  clear h1
  have h3 : (fr a0 [(1, true, .pointer (some ⟨b, 0, none⟩))]).eval (.tmp 3) = .func (.func 89) #[] #[] := by rw [← ha]; kernel_rfl
  refine fl_know hn rfl h3 ?_
  clear h3
  refine g_c1x enters_numbers hn (numbers_x b W) ?_
  rintro v w1 ⟨c, rfl, -, ⟨t, hC⟩, hb1⟩
  have HX1 := Lib.hid (HX.out.keep hb1)
  refine g_mv hn ?_
  refine g_c2w enters_contN hn (cont_out HX1.out hC) ?_
  intro w2 hb2
  repeat first | refine g_mv hn ?_ | refine g_as hn ?_ | refine g_fdL hn ?_ | refine g_ldL hn HX.out ?_ | refine g_ldA hn HX.out ?_ | refine g_fd hn ?_ | refine g_ld hn ?_ | refine g_nc hn ?_ | refine g_nt hn ?_ | refine g_an hn ?_ | refine g_or hn ?_ | refine g_ln hn ?_ | refine g_ex hn ?_ | refine g_neq2 hn ?_ | refine g_neq hn ?_ | refine g_eql2 hn ?_ | refine g_eql hn ?_ | refine g_leq2 hn ?_ | refine g_leq hn ?_ | refine g_lss2 hn ?_ | refine g_lss hn ?_ | refine g_gtr2 hn ?_ | refine g_gtr hn ?_ | refine g_geq2 hn ?_ | refine g_geq hn ?_ | refine g_b0 hn ?_ | refine g_bn hn ?_ | refine g_bc hn ?_ | refine g_cv hn ?_ | refine g_ac hn ?_ | refine g_mc hn ?_
  refine fl_endb (c := !outsB x) (rfl) ?_
  clear hn 
  subst ha
  dsimp only [fr, cnd, Act.put, cond_true]
  simp only [List.setIfInBounds_toArray, List.set_cons_zero, List.set_cons_succ]
  go_wp2_with fail
  go_ret
  exact ⟨rfl, by rw [hb]; exact (hB.trans (hb1.mono (Nat.le_of_lt HX.out.lt))).trans (hb2.mono (Nat.le_of_lt HX1.out.lt))⟩

theorem la_zeroC (x : Lt) (W : World) : ((do eqGuard .neq 56 (.tmp 9) (.tmp 10) (.agg (laI x.a0 x.a1 x.a2 x.a3 x.a4 x.a5 x.a6 x.a7 x.a8 x.a9 x.a10 x.a11)) (.agg (laI 0 0 0 0 0 0 0 0 0 0 0 0)); binOp .neq 56 (.agg (laI x.a0 x.a1 x.a2 x.a3 x.a4 x.a5 x.a6 x.a7 x.a8 x.a9 x.a10 x.a11)) (.agg (laI 0 0 0 0 0 0 0 0 0 0 0 0))) : Sem Value).run Tryz.prog W = .ok (.bool (!zeroLa x)) W := by
  go_simp
  rw [la_eqIL]
  rfl

set_option maxRecDepth 100000 in
set_option maxHeartbeats 2000000 in
theorem snapped_any (x : Lt) (h : Hn) (w : World) (hl : x.cs.length = h.n4) : Calls Tryz.prog 42 #[.agg (ltI x h)] w fun e w' => e = .returned (.bool (snapB x)) ∧ Below w.heap.size w w' := by
  go_enter Tryz.func42, Tryz.ntmps42
  go_upto_region 1 with fail
  have hX := blk_new w (ltI x h) 58
  have hB := b0 w (.cells (ltI x h) 58)
  generalize w.alloc (.cells (ltI x h) 58) = W at hX hB ⊢
  generalize hb : w.heap.size = b at hX hB ⊢
  have HX := Lib.hid hX
  clear hX
  have bz : (Instr.build 56 #[]).run Tryz.prog W = .ok (.agg (laI 0 0 0 0 0 0 0 0 0 0 0 0)) W := by kernel_rfl
  have ng : ((do eqGuard .neq 56 (.tmp 9) (.tmp 10) (.agg (laI x.a0 x.a1 x.a2 x.a3 x.a4 x.a5 x.a6 x.a7 x.a8 x.a9 x.a10 x.a11)) (.agg (laI 0 0 0 0 0 0 0 0 0 0 0 0)); binOp .neq 56 (.agg (laI x.a0 x.a1 x.a2 x.a3 x.a4 x.a5 x.a6 x.a7 x.a8 x.a9 x.a10 x.a11)) (.agg (laI 0 0 0 0 0 0 0 0 0 0 0 0))) : Sem Value).run Tryz.prog W = .ok (.bool (!zeroLa x)) W := la_zeroC x W
  refine wp_region_lit ?_
  refine fl_start ?_
  generalize ha : Act.mk _ _ = a0
  have hn : a0.tmps.size = 13 := by rw [← ha]; kernel_rfl
  have h1 : (fr a0 []).eval (.tmp 1) = .pointer (some ⟨b, 0, none⟩) := by rw [← ha]; kernel_rfl
  refine fl_know hn rfl h1 ?_
  clear h1
  repeat first | refine g_mv hn ?_ | refine g_as hn ?_ | refine g_fdL hn ?_ | refine g_ldL hn HX.out ?_ | refine g_ldA hn HX.out ?_ | refine g_fd hn ?_ | refine g_ld hn ?_ | refine g_nc hn ?_ | refine g_nt hn ?_ | refine g_an hn ?_ | refine g_or hn ?_ | refine g_ln hn ?_ | refine g_ex hn ?_ | refine g_neq2 hn ?_ | refine g_neq hn ?_ | refine g_eql2 hn ?_ | refine g_eql hn ?_ | refine g_leq2 hn ?_ | refine g_leq hn ?_ | refine g_lss2 hn ?_ | refine g_lss hn ?_ | refine g_gtr2 hn ?_ | refine g_gtr hn ?_ | refine g_geq2 hn ?_ | refine g_geq hn ?_ | refine g_b0 hn ?_ | refine g_bn hn ?_ | refine g_bc hn ?_ | refine g_cv hn ?_ | refine g_ac hn ?_ | refine g_mc hn ?_
  refine fl_endb (c := snapB x) (by unfold snapB; rw [hl]; simp) ?_
  clear hn bz ng
  subst ha
  dsimp only [fr, cnd, Act.put, cond_true]
  simp only [List.setIfInBounds_toArray, List.set_cons_zero, List.set_cons_succ]
  go_wp2_with fail
  go_ret
  exact ⟨rfl, by rw [hb]; exact hB⟩
end Go.Proofs.YtpjleeeligahaaaGreatDoor

namespace Go.Proofs.YtpjleeeligahaaaGreatDoor
open Go.RowKit

set_option maxHeartbeats 1000000 in
theorem good_any (k n : Int) (s : ByteArray) (w : World) (hs : s.size ≤ maxLen) :
    Calls Tryz.prog 117 #[.agg #[.int .i64 k, .int .i64 n, .string s]] w fun e w' => e = .returned (.bool (goodB k n s)) ∧ Below w.heap.size w w' := by
  unfold maxLen at hs
  go_enter Tryz.func117, Tryz.ntmps117
  go_wp2
  all_goals go_ret
  all_goals refine ⟨ret_bool ?_, b0 _ _⟩
  all_goals unfold goodB
  all_goals rw [Bool.eq_iff_iff]
  all_goals simp only [beq_iff_eq, beq_eq_false_iff_ne, decide_eq_true_eq, isEmpty_iff, Bool.false_eq_true, false_iff] at *
  all_goals omega
end Go.Proofs.YtpjleeeligahaaaGreatDoor

namespace Go.Proofs.YtpjleeeligahaaaGreatDoor
open Go.RowKit

/-- A value is nothing. -/
def noneB (k n : Int) (s : ByteArray) : Bool := decide (k = 0 ∧ n = 0 ∧ s.size = 0)
set_option maxHeartbeats 1000000 in
theorem nothing_any (k n : Int) (s : ByteArray) (w : World) :
    Calls Tryz.prog 157 #[.agg #[.int .i64 k, .int .i64 n, .string s]] w fun e w' => e = .returned (.bool (noneB k n s)) ∧ Below w.heap.size w w' := by
  have hs : s.data.toList.length = s.size := Array.length_toList
  have he : s.toList = [] ↔ s.size = 0 := by rw [ByteArray.toList_eq, ← List.length_eq_zero_iff, hs]
  have He := Lib.hid he
  clear he hs
  go_enter Tryz.func157, Tryz.ntmps157
  go_wp2
  all_goals go_ret
  all_goals refine ⟨ret_bool ?_, b0 _ _⟩
  all_goals unfold noneB
  all_goals rw [Bool.eq_iff_iff]
  all_goals simp only [He.out, decide_eq_true_eq, Bool.false_eq_true, false_iff, true_iff] at *
  all_goals omega

set_option maxHeartbeats 2000000 in
theorem deedGood_any (K ka na kb nb : Int) (ky sa sb : ByteArray) (w : World) (hk : ky.size ≤ maxLen) (ha : sa.size ≤ maxLen) (hb : sb.size ≤ maxLen) :
    Calls Tryz.prog 120 #[opV K ky ka na sa kb nb sb] w fun e w' => e = .returned (.bool (opB K ky ka na sa kb nb sb)) ∧ Below w.heap.size w w' := by
  go_enter Tryz.func120, Tryz.ntmps120
  go_wp2_with fail
  have hC := Lib.hid (blk_new w (opC K ky ka na sa kb nb sb) 45)
  have hB := b0 w (.cells (opC K ky ka na sa kb nb sb) 45)
  generalize w.alloc (.cells (opC K ky ka na sa kb nb sb) 45) = W at hC hB ⊢
  refine (key_any _ _ hk).mono ?_
  rintro e w1 ⟨rfl, hb1⟩
  replace hB := bt hB hb1
  replace hC := Lib.hid (hC.out.keep hb1)
  clear hb1
  obtain ⟨c0, c1, c2, c3, c4, c5, c6, c7, c8⟩ := hC.out.c8
  cases gk : keyB ky.data.toList
  · have R : Hid (opB K ky ka na sa kb nb sb = false) := by show _ = _; unfold opB; rw [gk]; rfl
    go_wp2_with fail
    go_ret
    exact ⟨ret_bool R.out.symm, hB⟩
  · have Gk := Lib.hid gk
    clear gk
    go_wp2_with (first | (go_at_call 117; refine (good_any _ _ _ _ (by assumption)).mono ?_; rintro e w2 ⟨rfl, hb2⟩; replace hB := bt hB hb2; replace hC := Lib.hid (hC.out.keep hb2); obtain ⟨d0, d1, d2, d3, d4, d5, d6, d7, d8⟩ := hC.out.c8) | (go_at_call 157; refine (nothing_any _ _ _ _).mono ?_; rintro e w2 ⟨rfl, hb2⟩; replace hB := bt hB hb2; replace hC := Lib.hid (hC.out.keep hb2); obtain ⟨d0, d1, d2, d3, d4, d5, d6, d7, d8⟩ := hC.out.c8))
    all_goals go_ret
    all_goals refine ⟨ret_bool ?_, hB⟩
    all_goals unfold opB
    all_goals rw [Gk.out, Bool.eq_iff_iff]
    all_goals simp only [goodB, noneB, Bool.and_eq_true, Bool.true_and, decide_eq_true_eq, beq_iff_eq, beq_eq_false_iff_ne, bne_iff_ne, bne_eq_false_iff_eq, Bool.false_eq_true, false_iff] at *
    all_goals clear hC
    all_goals omega
end Go.Proofs.YtpjleeeligahaaaGreatDoor

namespace Go.Proofs.YtpjleeeligahaaaGreatDoor
open Go.RowKit

set_option maxHeartbeats 1000000 in
theorem goodId_any (dev seq : Int) (w : World) :
    Calls Tryz.prog 119 #[.agg #[.int .i64 dev, .int .i64 seq]] w fun e w' => e = .returned (.bool (idB dev seq)) ∧ Below w.heap.size w w' := by
  go_enter Tryz.func119, Tryz.ntmps119
  go_wp2
  all_goals go_ret
  all_goals refine ⟨ret_bool ?_, b0 _ _⟩
  all_goals unfold idB
  all_goals rw [Bool.eq_iff_iff]
  all_goals simp only [decide_eq_true_eq, Bool.false_eq_true, false_iff] at *
  all_goals omega

set_option maxHeartbeats 2000000 in
theorem stampGood_any (x : Wr) (w : World) (hf : x.fits) :
    Calls Tryz.prog 73 #[.agg x.cells] w fun e w' => e = .returned (.bool x.good) ∧ Below w.heap.size w w' := by
  obtain ⟨dev, seq, K, ky, ka, na, sa, kb, nb, sb⟩ := x
  obtain ⟨hk, ha, hb, -, -⟩ := hf
  dsimp only at hk ha hb
  go_enter Tryz.func73, Tryz.ntmps73
  go_wp2_with fail
  have hC := Lib.hid (blk_new w (wrI dev seq K ky ka na sa kb nb sb) 47)
  have hB := b0 w (.cells (wrI dev seq K ky ka na sa kb nb sb) 47)
  generalize w.alloc (.cells (wrI dev seq K ky ka na sa kb nb sb) 47) = W at hC hB ⊢
  refine (goodId_any _ _ _).mono ?_
  rintro e w1 ⟨rfl, hb1⟩
  replace hB := bt hB hb1
  replace hC := Lib.hid (hC.out.keep hb1)
  clear hb1
  obtain ⟨c0, c1, c2, c3, c4, c5, c6, c7, c8, c9, c10⟩ := blk_c10 hC.out
  cases gi : idB dev seq
  · have R : Hid (Wr.good ⟨dev, seq, K, ky, ka, na, sa, kb, nb, sb⟩ = false) := by show wrGoodB dev seq K ky ka na sa kb nb sb = _; unfold wrGoodB; rw [gi]; rfl
    clear gi
    go_wp2_with fail
    go_ret
    exact ⟨ret_bool R.out.symm, hB⟩
  · have R : Hid (Wr.good ⟨dev, seq, K, ky, ka, na, sa, kb, nb, sb⟩ = opB K ky ka na sa kb nb sb) := by show wrGoodB dev seq K ky ka na sa kb nb sb = _; unfold wrGoodB; rw [gi]; rfl
    clear gi
    go_wp2_with fail
    refine (deedGood_any _ _ _ _ _ _ _ _ _ hk ha hb).mono ?_
    rintro e w2 ⟨rfl, hb2⟩
    replace hB := bt hB hb2
    go_wp2_with fail
    go_ret
    exact ⟨ret_bool R.out.symm, hB⟩
end Go.Proofs.YtpjleeeligahaaaGreatDoor
