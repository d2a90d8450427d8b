/-
  WHAT IS PROVED: the laws of XFast, Fast2, Fast3 once more, their side conditions as default arguments. Over this program · a call with any operands, in a region that doesn't draw its order. Over any program that bears the types named. · words for maps from numbers, over any program: a block's entries told as a partial function; what a look, a store, a delete, a new map, a copy do to it. Conditions: those typed in each theorem.
-/
import Derived.Test.YtjbmhbnlanbbkaaDoorGQ1
import Derived.MapKept
import Derived.Below
import Derived.Laws.IdiomRangeMap
namespace Go.Proofs.YtjbmhbnlanbbkaaDoor
open Go.RowKit

section
variable {P : Program} {l : List Oper} {Q : Exit → Act → World → Prop} {rest : List Oper} {a0 : Act} {L : List (Nat × Bool × Value)} {w : World}
theorem run_bc {w : World} {op : BinOp} {x : Operand} {t ty ty2 : TypeId} {c v vi : Value} {d : Option Tmp} {p : String} {af : Array Edge} {gd : Option (Nat × Bool)} {ρ : Operand → Value} (h1 : ρ x = vi) (hr : ((do eqGuard op t x (.const c) vi c; binOp op t vi c) : Sem Value).run P w = .ok v w) (h2 : ρ (.const c) = c := by rfl) : (execOp ρ ⟨d, .binOp op t x (.const c) ty2, ty, p, af, gd⟩).run P w = .ok (.value v) w := by
  unfold execOp
  dsimp only
  rw [h1, h2, Sem.run_bind, hr]
  rfl
theorem run_cv {w : World} {x : Operand} {t t2 ty : TypeId} {v vi : Value} {d : Option Tmp} {p : String} {af : Array Edge} {gd : Option (Nat × Bool)} {ρ : Operand → Value} (h1 : ρ x = vi) (hr : (convert t t2 vi).run P w = .ok v w) : (execOp ρ ⟨d, .convert t t2 x, ty, p, af, gd⟩).run P w = .ok (.value v) w := by
  unfold execOp
  dsimp only
  rw [h1, Sem.run_bind, hr]
  rfl
theorem run_ex {w : World} {x : Operand} {k : Nat} {ty : TypeId} {v : Value} {cs : Array Value} {d : Option Tmp} {p : String} {af : Array Edge} {gd : Option (Nat × Bool)} {ρ : Operand → Value} (h1 : ρ x = .tuple cs) (hr : cs[k]? = some v) : (execOp ρ ⟨d, .extract x k, ty, p, af, gd⟩).run P w = .ok (.value v) w := by
  unfold execOp
  dsimp only
  rw [h1]
  simp [Instr.extract, hr]
theorem g_mv {d n : Nat} {i : Nat} {gi : Bool} {v : Value} {ty : TypeId} {p : String} {af : Array Edge} {gd : Option (Nat × Bool)} {g : Bool} (hn : a0.tmps.size = n)  (h : FL P l Q rest a0 ((d, g, v) :: L) w) (hd : Nat.blt d n = true := by rfl) (hw : wtG l L gd = some g := by rfl) (hli : lk L i = some (gi, v) := by rfl) (hsi : g = true → gi = true := by first | exact fun _ => rfl | exact id | exact and_l | exact fun h => and_l (and_l h) | exact fun h => and_l (and_l (and_l h)) | exact fun h => and_l (and_l (and_l (and_l h))) | exact fun h => and_l (and_l (and_l (and_l (and_l h))))) : FL P l Q (⟨some d, .move (.tmp i), ty, p, af, gd⟩ :: rest) a0 L w := fl_move hn hd hw hli hsi h
theorem g_as {d n : Nat} {i : Nat} {gi : Bool} {v : Value} {ty : TypeId} {p : String} {af : Array Edge} {gd : Option (Nat × Bool)} {g : Bool} (hn : a0.tmps.size = n)  (h : FL P l Q rest a0 ((d, g, v) :: L) w) (hd : Nat.blt d n = true := by rfl) (hw : wtG l L gd = some g := by rfl) (hli : lk L i = some (gi, v) := by rfl) (hsi : g = true → gi = true := by first | exact fun _ => rfl | exact id | exact and_l | exact fun h => and_l (and_l h) | exact fun h => and_l (and_l (and_l h)) | exact fun h => and_l (and_l (and_l (and_l h))) | exact fun h => and_l (and_l (and_l (and_l (and_l h))))) : FL P l Q (⟨some d, .assign (.tmp i), ty, p, af, gd⟩ :: rest) a0 L w := fl_assign hn hd hw hli hsi h
theorem g_nc {d n : Nat} {i : Nat} {gi : Bool} {ad : Addr} {ty : TypeId} {p : String} {af : Array Edge} {gd : Option (Nat × Bool)} {g : Bool} (hn : a0.tmps.size = n)  (h : FL P l Q rest a0 ((d, g, (.pointer (some ad))) :: L) w) (hd : Nat.blt d n = true := by rfl) (hw : wtG l L gd = some g := by rfl) (hli : lk L i = some (gi, .pointer (some ad)) := by rfl) (hsi : g = true → gi = true := by first | exact fun _ => rfl | exact id | exact and_l | exact fun h => and_l (and_l h) | exact fun h => and_l (and_l (and_l h)) | exact fun h => and_l (and_l (and_l (and_l h))) | exact fun h => and_l (and_l (and_l (and_l (and_l h))))) : FL P l Q (⟨some d, .nilCheck (.tmp i), ty, p, af, gd⟩ :: rest) a0 L w := fl_nilc hn hd hw hli hsi h
theorem g_nt {d n : Nat} {i : Nat} {ty2 : TypeId} {gi b : Bool} {ty : TypeId} {p : String} {af : Array Edge} {gd : Option (Nat × Bool)} {g : Bool} (hn : a0.tmps.size = n)  (h : FL P l Q rest a0 ((d, g, (.bool !b)) :: L) w) (hd : Nat.blt d n = true := by rfl) (hw : wtG l L gd = some g := by rfl) (hli : lk L i = some (gi, .bool b) := by rfl) (hsi : g = true → gi = true := by first | exact fun _ => rfl | exact id | exact and_l | exact fun h => and_l (and_l h) | exact fun h => and_l (and_l (and_l h)) | exact fun h => and_l (and_l (and_l (and_l h))) | exact fun h => and_l (and_l (and_l (and_l (and_l h))))) : FL P l Q (⟨some d, .unOp .not ty2 (.tmp i), ty, p, af, gd⟩ :: rest) a0 L w := fl_not hn hd hw hli hsi h
theorem g_or {d n : Nat} {i c : Nat} {gi gc b b2 : Bool} {ty : TypeId} {p : String} {af : Array Edge} {gd : Option (Nat × Bool)} {g : Bool} (hn : a0.tmps.size = n)  (h : FL P l Q rest a0 ((d, g, (.bool (b || b2))) :: L) w) (hd : Nat.blt d n = true := by rfl) (hw : wtG l L gd = some g := by rfl) (hlc : lk L c = some (gc, .bool b) := by rfl) (hsc : g = true → gc = true := by first | exact fun _ => rfl | exact id | exact and_l | exact fun h => and_l (and_l h) | exact fun h => and_l (and_l (and_l h)) | exact fun h => and_l (and_l (and_l (and_l h))) | exact fun h => and_l (and_l (and_l (and_l (and_l h))))) (hl2 : lk L i = some (gi, .bool b2) := by rfl) (hs2 : g = true → b = false → gi = true := by (intro h1 h2; first | rfl | (rw [h1, h2]; rfl) | simp_all)) : FL P l Q (⟨some d, .pick (.tmp c) (.const (.bool true)) (.tmp i), ty, p, af, gd⟩ :: rest) a0 L w := fl_or hn hd hw hlc hsc hl2 hs2 h
theorem g_an {d n : Nat} {i c : Nat} {gi gc b b2 : Bool} {ty : TypeId} {p : String} {af : Array Edge} {gd : Option (Nat × Bool)} {g : Bool} (hn : a0.tmps.size = n)  (h : FL P l Q rest a0 ((d, g, (.bool (b && b2))) :: L) w) (hd : Nat.blt d n = true := by rfl) (hw : wtG l L gd = some g := by rfl) (hlc : lk L c = some (gc, .bool b) := by rfl) (hsc : g = true → gc = true := by first | exact fun _ => rfl | exact id | exact and_l | exact fun h => and_l (and_l h) | exact fun h => and_l (and_l (and_l h)) | exact fun h => and_l (and_l (and_l (and_l h))) | exact fun h => and_l (and_l (and_l (and_l (and_l h))))) (hl2 : lk L i = some (gi, .bool b2) := by rfl) (hs2 : g = true → b = true → gi = true := by (intro h1 h2; first | rfl | (rw [h1, h2]; rfl) | simp_all)) : FL P l Q (⟨some d, .pick (.tmp c) (.tmp i) (.const (.bool false)), ty, p, af, gd⟩ :: rest) a0 L w := fl_and hn hd hw hlc hsc hl2 hs2 h
theorem g_fd {d n : Nat} {i f : Nat} {t : TypeId} {gi : Bool} {ad ad2 : Addr} {ty : TypeId} {p : String} {af : Array Edge} {gd : Option (Nat × Bool)} {g : Bool} (hn : a0.tmps.size = n)  (h : FL P l Q rest a0 ((d, g, (.pointer (some ad2))) :: L) w) (hd : Nat.blt d n = true := by rfl) (hw : wtG l L gd = some g := by rfl) (hli : lk L i = some (gi, .pointer (some ad)) := by rfl) (hsi : g = true → gi = true := by first | exact fun _ => rfl | exact id | exact and_l | exact fun h => and_l (and_l h) | exact fun h => and_l (and_l (and_l h)) | exact fun h => and_l (and_l (and_l (and_l h))) | exact fun h => and_l (and_l (and_l (and_l (and_l h))))) (hr : (Instr.fieldAt t (.pointer (some ad)) f).run P w = .ok (.pointer (some ad2)) w := by with_reducible assumption) : FL P l Q (⟨some d, .fieldAddr t (.tmp i) f, ty, p, af, gd⟩ :: rest) a0 L w := fl_field hn hd hw hli hsi hr h
theorem g_ld {d n : Nat} {i : Nat} {t : TypeId} {gi : Bool} {ad : Addr} {v : Value} {ty : TypeId} {p : String} {af : Array Edge} {gd : Option (Nat × Bool)} {g : Bool} (hn : a0.tmps.size = n)  (h : FL P l Q rest a0 ((d, g, v) :: L) w) (hd : Nat.blt d n = true := by rfl) (hw : wtG l L gd = some g := by rfl) (hli : lk L i = some (gi, .pointer (some ad)) := by rfl) (hsi : g = true → gi = true := by first | exact fun _ => rfl | exact id | exact and_l | exact fun h => and_l (and_l h) | exact fun h => and_l (and_l (and_l h)) | exact fun h => and_l (and_l (and_l (and_l h))) | exact fun h => and_l (and_l (and_l (and_l (and_l h))))) (hr : (Instr.loadAt t (.pointer (some ad))).run P w = .ok v w := by with_reducible assumption) : FL P l Q (⟨some d, .load t (.tmp i), ty, p, af, gd⟩ :: rest) a0 L w := fl_load hn hd hw hli hsi hr h
theorem g_b0 {d n : Nat} {t : TypeId} {v : Value} {ty : TypeId} {p : String} {af : Array Edge} {gd : Option (Nat × Bool)} {g : Bool} (hn : a0.tmps.size = n)  (h : FL P l Q rest a0 ((d, g, v) :: L) w) (hd : Nat.blt d n = true := by rfl) (hw : wtG l L gd = some g := by rfl) (hr : (Instr.build t #[]).run P w = .ok v w := by with_reducible assumption) : FL P l Q (⟨some d, .build t #[], ty, p, af, gd⟩ :: rest) a0 L w := fl_build0 hn hd hw hr h
theorem g_bn {d n : Nat} {op : BinOp} {i j : Nat} {t ty2 : TypeId} {gi gj : Bool} {vi vj v : Value} {ty : TypeId} {p : String} {af : Array Edge} {gd : Option (Nat × Bool)} {g : Bool} (hn : a0.tmps.size = n)  (h : FL P l Q rest a0 ((d, g, v) :: L) w) (hd : Nat.blt d n = true := by rfl) (hw : wtG l L gd = some g := by rfl) (hli : lk L i = some (gi, vi) := by rfl) (hsi : g = true → gi = true := by first | exact fun _ => rfl | exact id | exact and_l | exact fun h => and_l (and_l h) | exact fun h => and_l (and_l (and_l h)) | exact fun h => and_l (and_l (and_l (and_l h))) | exact fun h => and_l (and_l (and_l (and_l (and_l h))))) (hlj : lk L j = some (gj, vj) := by rfl) (hsj : g = true → gj = true := by first | exact fun _ => rfl | exact id | exact and_l | exact fun h => and_l (and_l h) | exact fun h => and_l (and_l (and_l h)) | exact fun h => and_l (and_l (and_l (and_l h))) | exact fun h => and_l (and_l (and_l (and_l (and_l h))))) (hr : ((do eqGuard op t (.tmp i) (.tmp j) vi vj; binOp op t vi vj) : Sem Value).run P w = .ok v w := by with_reducible assumption) : FL P l Q (⟨some d, .binOp op t (.tmp i) (.tmp j) ty2, ty, p, af, gd⟩ :: rest) a0 L w := fl_bin hn hd hw hli hsi hlj hsj hr h
theorem g_bc {d n : Nat} {op : BinOp} {i : Nat} {t ty2 : TypeId} {gi : Bool} {vi c v : Value} {ty : TypeId} {p : String} {af : Array Edge} {gd : Option (Nat × Bool)} {g : Bool} (hn : a0.tmps.size = n)  (h : FL P l Q rest a0 ((d, g, v) :: L) w) (hd : Nat.blt d n = true := by rfl) (hw : wtG l L gd = some g := by rfl) (hli : lk L i = some (gi, vi) := by rfl) (hsi : g = true → gi = true := by first | exact fun _ => rfl | exact id | exact and_l | exact fun h => and_l (and_l h) | exact fun h => and_l (and_l (and_l h)) | exact fun h => and_l (and_l (and_l (and_l h))) | exact fun h => and_l (and_l (and_l (and_l (and_l h))))) (hr : ((do eqGuard op t (.tmp i) (.const c) vi c; binOp op t vi c) : Sem Value).run P w = .ok v w := by with_reducible assumption) : FL P l Q (⟨some d, .binOp op t (.tmp i) (.const c) ty2, ty, p, af, gd⟩ :: rest) a0 L w := fl_op hn rfl hd hw (fun hk hg => run_bc (lk_at hk hli hsi hg) hr) h
theorem g_cv {d n : Nat} {i : Nat} {t t2 : TypeId} {gi : Bool} {vi v : Value} {ty : TypeId} {p : String} {af : Array Edge} {gd : Option (Nat × Bool)} {g : Bool} (hn : a0.tmps.size = n)  (h : FL P l Q rest a0 ((d, g, v) :: L) w) (hd : Nat.blt d n = true := by rfl) (hw : wtG l L gd = some g := by rfl) (hli : lk L i = some (gi, vi) := by rfl) (hsi : g = true → gi = true := by first | exact fun _ => rfl | exact id | exact and_l | exact fun h => and_l (and_l h) | exact fun h => and_l (and_l (and_l h)) | exact fun h => and_l (and_l (and_l (and_l h))) | exact fun h => and_l (and_l (and_l (and_l (and_l h))))) (hr : (convert t t2 vi).run P w = .ok v w := by with_reducible assumption) : FL P l Q (⟨some d, .convert t t2 (.tmp i), ty, p, af, gd⟩ :: rest) a0 L w := fl_op hn rfl hd hw (fun hk hg => run_cv (lk_at hk hli hsi hg) hr) h
theorem g_ex {d n : Nat} {i k : Nat} {gi : Bool} {cs : Array Value} {v : Value} {ty : TypeId} {p : String} {af : Array Edge} {gd : Option (Nat × Bool)} {g : Bool} (hn : a0.tmps.size = n)  (h : FL P l Q rest a0 ((d, g, v) :: L) w) (hd : Nat.blt d n = true := by rfl) (hw : wtG l L gd = some g := by rfl) (hli : lk L i = some (gi, .tuple cs) := by rfl) (hsi : g = true → gi = true := by first | exact fun _ => rfl | exact id | exact and_l | exact fun h => and_l (and_l h) | exact fun h => and_l (and_l (and_l h)) | exact fun h => and_l (and_l (and_l (and_l h))) | exact fun h => and_l (and_l (and_l (and_l (and_l h))))) (hr : cs[k]? = some v := by rfl) : FL P l Q (⟨some d, .extract (.tmp i) k, ty, p, af, gd⟩ :: rest) a0 L w := fl_op hn rfl hd hw (fun hk hg => run_ex (lk_at hk hli hsi hg) hr) h
theorem g_ac {d n : Nat} {v : Value} {ty : TypeId} {p : String} {af : Array Edge} {gd : Option (Nat × Bool)} {g : Bool} (hn : a0.tmps.size = n)  (h : FL P l Q rest a0 ((d, g, v) :: L) w) (hd : Nat.blt d n = true := by rfl) (hw : wtG l L gd = some g := by rfl)  : FL P l Q (⟨some d, .assign (.const v), ty, p, af, gd⟩ :: rest) a0 L w := fl_op hn rfl hd hw (fun _ _ => rfl) h
theorem g_mc {d n : Nat} {v : Value} {ty : TypeId} {p : String} {af : Array Edge} {gd : Option (Nat × Bool)} {g : Bool} (hn : a0.tmps.size = n)  (h : FL P l Q rest a0 ((d, g, v) :: L) w) (hd : Nat.blt d n = true := by rfl) (hw : wtG l L gd = some g := by rfl)  : FL P l Q (⟨some d, .move (.const v), ty, p, af, gd⟩ :: rest) a0 L w := fl_op hn rfl hd hw (fun _ _ => rfl) h
theorem g_stc {i b j : Nat} {t ty T : TypeId} {v : Value} {p : String} {af : Array Edge} {gd : Option (Nat × Bool)} {cs : Array Value} (hX : Blk w b cs T) (hr : (Instr.storeAt t (.pointer (some ⟨b, j, none⟩)) v).run P w = .ok () (w.setCell ⟨b, j, none⟩ v)) (h : ∀ w2, Only1 b w w2 → Blk w2 b (cs.setIfInBounds j v) T → FL P l Q rest a0 L w2) (hw : wtG l L gd = some true := by rfl) (hl : lk L i = some (true, .pointer (some ⟨b, j, none⟩)) := by rfl) : FL P l Q (⟨none, .store t (.tmp i) (.const v), ty, p, af, gd⟩ :: rest) a0 L w := fl_stc hw hl hX hr h
theorem g_stt {i k b j : Nat} {g : Bool} {t ty T : TypeId} {v : Value} {p : String} {af : Array Edge} {gd : Option (Nat × Bool)} {cs : Array Value} (hX : Blk w b cs T) (hr : (Instr.storeAt t (.pointer (some ⟨b, j, none⟩)) v).run P w = .ok () (w.setCell ⟨b, j, none⟩ v)) (h : ∀ w2, Only1 b w w2 → Blk w2 b (cs.setIfInBounds j v) T → FL P l Q rest a0 L w2) (hw : wtG l L gd = some true := by rfl) (hl : lk L i = some (true, .pointer (some ⟨b, j, none⟩)) := by rfl) (hl2 : lk L k = some (g, v) := by rfl) (hg : g = true := by rfl) : FL P l Q (⟨none, .store t (.tmp i) (.tmp k), ty, p, af, gd⟩ :: rest) a0 L w := fl_stt hw hl hl2 hg hX hr h
theorem g_stm {i k b j : Nat} {g : Bool} {t ty T : TypeId} {c : Array Value} {p : String} {af : Array Edge} {gd : Option (Nat × Bool)} {cs : Array Value} (hX : Blk w b cs T) (h : ∀ w2, Only1 b w w2 → Blk w2 b (setL cs j c.toList) T → FL P l Q rest a0 L w2) (hw : wtG l L gd = some true := by rfl) (hl : lk L i = some (true, .pointer (some ⟨b, j, none⟩)) := by rfl) (hl2 : lk L k = some (g, .agg c) := by rfl) (hg : g = true := by rfl) (hs : j + c.size ≤ cs.size := by simp) (hi : (P.info? t).map (·.size) = some c.size := by kernel_rfl) (h1 : c.all (·.oneCell') = true := by rfl) : FL P l Q (⟨none, .store t (.tmp i) (.tmp k), ty, p, af, gd⟩ :: rest) a0 L w := fl_stm hw hl hl2 hg hX hs hi h1 h
theorem g_str {i k b : Nat} {g : Bool} {t ty T : TypeId} {c : Array Value} {p : String} {af : Array Edge} {gd : Option (Nat × Bool)} {cs : Array Value} (hX : Blk w b cs T) (h : ∀ w2, Only1 b w w2 → Blk w2 b c T → FL P l Q rest a0 L w2) (hw : wtG l L gd = some true := by rfl) (hl : lk L i = some (true, .pointer (some ⟨b, 0, none⟩)) := by rfl) (hl2 : lk L k = some (g, .agg c) := by rfl) (hg : g = true := by rfl) (hs : cs.size = c.size := by rfl) (hi : (P.info? t).map (·.size) = some c.size := by kernel_rfl) (h1 : c.all (·.oneCell') = true := by rfl) : FL P l Q (⟨none, .store t (.tmp i) (.tmp k), ty, p, af, gd⟩ :: rest) a0 L w := fl_str hw hl hl2 hg hX hs hi h1 h
end
section
variable {l : List Oper} {Q : Exit → Act → World → Prop} {rest : List Oper} {a0 : Act} {L : List (Nat × Bool × Value)} {w : World}
theorem g_neq {d n : Nat} {i : Nat} {m k : Int} {ty2 : TypeId} {gi : Bool} {ty : TypeId} {p : String} {af : Array Edge} {gd : Option (Nat × Bool)} {g : Bool} (hn : a0.tmps.size = n)  (h : FL Tryd.prog l Q rest a0 ((d, g, (.bool (m != k))) :: L) w) (hd : Nat.blt d n = true := by rfl) (hw : wtG l L gd = some g := by rfl) (hli : lk L i = some (gi, .int .i64 m) := by rfl) (hsi : g = true → gi = true := by first | exact fun _ => rfl | exact id | exact and_l | exact fun h => and_l (and_l h) | exact fun h => and_l (and_l (and_l h)) | exact fun h => and_l (and_l (and_l (and_l h))) | exact fun h => and_l (and_l (and_l (and_l (and_l h))))) : FL Tryd.prog l Q (⟨some d, .binOp .neq 3 (.tmp i) (.const (.int .i64 k)) ty2, ty, p, af, gd⟩ :: rest) a0 L w := fl_neq hn hd hw hli hsi h
theorem g_neq2 {d n : Nat} {i j : Nat} {m k : Int} {ty2 : TypeId} {gi gj : Bool} {ty : TypeId} {p : String} {af : Array Edge} {gd : Option (Nat × Bool)} {g : Bool} (hn : a0.tmps.size = n)  (h : FL Tryd.prog l Q rest a0 ((d, g, (.bool (m != k))) :: L) w) (hd : Nat.blt d n = true := by rfl) (hw : wtG l L gd = some g := by rfl) (hli : lk L i = some (gi, .int .i64 m) := by rfl) (hsi : g = true → gi = true := by first | exact fun _ => rfl | exact id | exact and_l | exact fun h => and_l (and_l h) | exact fun h => and_l (and_l (and_l h)) | exact fun h => and_l (and_l (and_l (and_l h))) | exact fun h => and_l (and_l (and_l (and_l (and_l h))))) (hlj : lk L j = some (gj, .int .i64 k) := by rfl) (hsj : g = true → gj = true := by first | exact fun _ => rfl | exact id | exact and_l | exact fun h => and_l (and_l h) | exact fun h => and_l (and_l (and_l h)) | exact fun h => and_l (and_l (and_l (and_l h))) | exact fun h => and_l (and_l (and_l (and_l (and_l h))))) : FL Tryd.prog l Q (⟨some d, .binOp .neq 3 (.tmp i) (.tmp j) ty2, ty, p, af, gd⟩ :: rest) a0 L w := fl_neq2 hn hd hw hli hsi hlj hsj h
theorem g_gtr {d n : Nat} {i : Nat} {m k : Int} {ty2 : TypeId} {gi : Bool} {ty : TypeId} {p : String} {af : Array Edge} {gd : Option (Nat × Bool)} {g : Bool} (hn : a0.tmps.size = n)  (h : FL Tryd.prog l Q rest a0 ((d, g, (.bool (decide (k < m)))) :: L) w) (hd : Nat.blt d n = true := by rfl) (hw : wtG l L gd = some g := by rfl) (hli : lk L i = some (gi, .int .i64 m) := by rfl) (hsi : g = true → gi = true := by first | exact fun _ => rfl | exact id | exact and_l | exact fun h => and_l (and_l h) | exact fun h => and_l (and_l (and_l h)) | exact fun h => and_l (and_l (and_l (and_l h))) | exact fun h => and_l (and_l (and_l (and_l (and_l h))))) : FL Tryd.prog l Q (⟨some d, .binOp .gtr 3 (.tmp i) (.const (.int .i64 k)) ty2, ty, p, af, gd⟩ :: rest) a0 L w := fl_gtr hn hd hw hli hsi h
theorem g_gtr2 {d n : Nat} {i j : Nat} {m k : Int} {ty2 : TypeId} {gi gj : Bool} {ty : TypeId} {p : String} {af : Array Edge} {gd : Option (Nat × Bool)} {g : Bool} (hn : a0.tmps.size = n)  (h : FL Tryd.prog l Q rest a0 ((d, g, (.bool (decide (k < m)))) :: L) w) (hd : Nat.blt d n = true := by rfl) (hw : wtG l L gd = some g := by rfl) (hli : lk L i = some (gi, .int .i64 m) := by rfl) (hsi : g = true → gi = true := by first | exact fun _ => rfl | exact id | exact and_l | exact fun h => and_l (and_l h) | exact fun h => and_l (and_l (and_l h)) | exact fun h => and_l (and_l (and_l (and_l h))) | exact fun h => and_l (and_l (and_l (and_l (and_l h))))) (hlj : lk L j = some (gj, .int .i64 k) := by rfl) (hsj : g = true → gj = true := by first | exact fun _ => rfl | exact id | exact and_l | exact fun h => and_l (and_l h) | exact fun h => and_l (and_l (and_l h)) | exact fun h => and_l (and_l (and_l (and_l h))) | exact fun h => and_l (and_l (and_l (and_l (and_l h))))) : FL Tryd.prog l Q (⟨some d, .binOp .gtr 3 (.tmp i) (.tmp j) ty2, ty, p, af, gd⟩ :: rest) a0 L w := fl_gtr2 hn hd hw hli hsi hlj hsj h
theorem g_eql {d n : Nat} {i : Nat} {m k : Int} {ty2 : TypeId} {gi : Bool} {ty : TypeId} {p : String} {af : Array Edge} {gd : Option (Nat × Bool)} {g : Bool} (hn : a0.tmps.size = n)  (h : FL Tryd.prog l Q rest a0 ((d, g, (.bool (m == k))) :: L) w) (hd : Nat.blt d n = true := by rfl) (hw : wtG l L gd = some g := by rfl) (hli : lk L i = some (gi, .int .i64 m) := by rfl) (hsi : g = true → gi = true := by first | exact fun _ => rfl | exact id | exact and_l | exact fun h => and_l (and_l h) | exact fun h => and_l (and_l (and_l h)) | exact fun h => and_l (and_l (and_l (and_l h))) | exact fun h => and_l (and_l (and_l (and_l (and_l h))))) : FL Tryd.prog l Q (⟨some d, .binOp .eql 3 (.tmp i) (.const (.int .i64 k)) ty2, ty, p, af, gd⟩ :: rest) a0 L w := fl_eql hn hd hw hli hsi h
theorem g_eql2 {d n : Nat} {i j : Nat} {m k : Int} {ty2 : TypeId} {gi gj : Bool} {ty : TypeId} {p : String} {af : Array Edge} {gd : Option (Nat × Bool)} {g : Bool} (hn : a0.tmps.size = n)  (h : FL Tryd.prog l Q rest a0 ((d, g, (.bool (m == k))) :: L) w) (hd : Nat.blt d n = true := by rfl) (hw : wtG l L gd = some g := by rfl) (hli : lk L i = some (gi, .int .i64 m) := by rfl) (hsi : g = true → gi = true := by first | exact fun _ => rfl | exact id | exact and_l | exact fun h => and_l (and_l h) | exact fun h => and_l (and_l (and_l h)) | exact fun h => and_l (and_l (and_l (and_l h))) | exact fun h => and_l (and_l (and_l (and_l (and_l h))))) (hlj : lk L j = some (gj, .int .i64 k) := by rfl) (hsj : g = true → gj = true := by first | exact fun _ => rfl | exact id | exact and_l | exact fun h => and_l (and_l h) | exact fun h => and_l (and_l (and_l h)) | exact fun h => and_l (and_l (and_l (and_l h))) | exact fun h => and_l (and_l (and_l (and_l (and_l h))))) : FL Tryd.prog l Q (⟨some d, .binOp .eql 3 (.tmp i) (.tmp j) ty2, ty, p, af, gd⟩ :: rest) a0 L w := fl_eql2 hn hd hw hli hsi hlj hsj h
theorem g_leq {d n : Nat} {i : Nat} {m k : Int} {ty2 : TypeId} {gi : Bool} {ty : TypeId} {p : String} {af : Array Edge} {gd : Option (Nat × Bool)} {g : Bool} (hn : a0.tmps.size = n)  (h : FL Tryd.prog l Q rest a0 ((d, g, (.bool (decide (m ≤ k)))) :: L) w) (hd : Nat.blt d n = true := by rfl) (hw : wtG l L gd = some g := by rfl) (hli : lk L i = some (gi, .int .i64 m) := by rfl) (hsi : g = true → gi = true := by first | exact fun _ => rfl | exact id | exact and_l | exact fun h => and_l (and_l h) | exact fun h => and_l (and_l (and_l h)) | exact fun h => and_l (and_l (and_l (and_l h))) | exact fun h => and_l (and_l (and_l (and_l (and_l h))))) : FL Tryd.prog l Q (⟨some d, .binOp .leq 3 (.tmp i) (.const (.int .i64 k)) ty2, ty, p, af, gd⟩ :: rest) a0 L w := fl_leq hn hd hw hli hsi h
theorem g_leq2 {d n : Nat} {i j : Nat} {m k : Int} {ty2 : TypeId} {gi gj : Bool} {ty : TypeId} {p : String} {af : Array Edge} {gd : Option (Nat × Bool)} {g : Bool} (hn : a0.tmps.size = n)  (h : FL Tryd.prog l Q rest a0 ((d, g, (.bool (decide (m ≤ k)))) :: L) w) (hd : Nat.blt d n = true := by rfl) (hw : wtG l L gd = some g := by rfl) (hli : lk L i = some (gi, .int .i64 m) := by rfl) (hsi : g = true → gi = true := by first | exact fun _ => rfl | exact id | exact and_l | exact fun h => and_l (and_l h) | exact fun h => and_l (and_l (and_l h)) | exact fun h => and_l (and_l (and_l (and_l h))) | exact fun h => and_l (and_l (and_l (and_l (and_l h))))) (hlj : lk L j = some (gj, .int .i64 k) := by rfl) (hsj : g = true → gj = true := by first | exact fun _ => rfl | exact id | exact and_l | exact fun h => and_l (and_l h) | exact fun h => and_l (and_l (and_l h)) | exact fun h => and_l (and_l (and_l (and_l h))) | exact fun h => and_l (and_l (and_l (and_l (and_l h))))) : FL Tryd.prog l Q (⟨some d, .binOp .leq 3 (.tmp i) (.tmp j) ty2, ty, p, af, gd⟩ :: rest) a0 L w := fl_leq2 hn hd hw hli hsi hlj hsj h
theorem g_lss {d n : Nat} {i : Nat} {m k : Int} {ty2 : TypeId} {gi : Bool} {ty : TypeId} {p : String} {af : Array Edge} {gd : Option (Nat × Bool)} {g : Bool} (hn : a0.tmps.size = n)  (h : FL Tryd.prog l Q rest a0 ((d, g, (.bool (decide (m < k)))) :: L) w) (hd : Nat.blt d n = true := by rfl) (hw : wtG l L gd = some g := by rfl) (hli : lk L i = some (gi, .int .i64 m) := by rfl) (hsi : g = true → gi = true := by first | exact fun _ => rfl | exact id | exact and_l | exact fun h => and_l (and_l h) | exact fun h => and_l (and_l (and_l h)) | exact fun h => and_l (and_l (and_l (and_l h))) | exact fun h => and_l (and_l (and_l (and_l (and_l h))))) : FL Tryd.prog l Q (⟨some d, .binOp .lss 3 (.tmp i) (.const (.int .i64 k)) ty2, ty, p, af, gd⟩ :: rest) a0 L w := fl_lss hn hd hw hli hsi h
theorem g_lss2 {d n : Nat} {i j : Nat} {m k : Int} {ty2 : TypeId} {gi gj : Bool} {ty : TypeId} {p : String} {af : Array Edge} {gd : Option (Nat × Bool)} {g : Bool} (hn : a0.tmps.size = n)  (h : FL Tryd.prog l Q rest a0 ((d, g, (.bool (decide (m < k)))) :: L) w) (hd : Nat.blt d n = true := by rfl) (hw : wtG l L gd = some g := by rfl) (hli : lk L i = some (gi, .int .i64 m) := by rfl) (hsi : g = true → gi = true := by first | exact fun _ => rfl | exact id | exact and_l | exact fun h => and_l (and_l h) | exact fun h => and_l (and_l (and_l h)) | exact fun h => and_l (and_l (and_l (and_l h))) | exact fun h => and_l (and_l (and_l (and_l (and_l h))))) (hlj : lk L j = some (gj, .int .i64 k) := by rfl) (hsj : g = true → gj = true := by first | exact fun _ => rfl | exact id | exact and_l | exact fun h => and_l (and_l h) | exact fun h => and_l (and_l (and_l h)) | exact fun h => and_l (and_l (and_l (and_l h))) | exact fun h => and_l (and_l (and_l (and_l (and_l h))))) : FL Tryd.prog l Q (⟨some d, .binOp .lss 3 (.tmp i) (.tmp j) ty2, ty, p, af, gd⟩ :: rest) a0 L w := fl_lss2 hn hd hw hli hsi hlj hsj h
theorem g_geq {d n : Nat} {i : Nat} {m k : Int} {ty2 : TypeId} {gi : Bool} {ty : TypeId} {p : String} {af : Array Edge} {gd : Option (Nat × Bool)} {g : Bool} (hn : a0.tmps.size = n)  (h : FL Tryd.prog l Q rest a0 ((d, g, (.bool (decide (k ≤ m)))) :: L) w) (hd : Nat.blt d n = true := by rfl) (hw : wtG l L gd = some g := by rfl) (hli : lk L i = some (gi, .int .i64 m) := by rfl) (hsi : g = true → gi = true := by first | exact fun _ => rfl | exact id | exact and_l | exact fun h => and_l (and_l h) | exact fun h => and_l (and_l (and_l h)) | exact fun h => and_l (and_l (and_l (and_l h))) | exact fun h => and_l (and_l (and_l (and_l (and_l h))))) : FL Tryd.prog l Q (⟨some d, .binOp .geq 3 (.tmp i) (.const (.int .i64 k)) ty2, ty, p, af, gd⟩ :: rest) a0 L w := fl_geq hn hd hw hli hsi h
theorem g_geq2 {d n : Nat} {i j : Nat} {m k : Int} {ty2 : TypeId} {gi gj : Bool} {ty : TypeId} {p : String} {af : Array Edge} {gd : Option (Nat × Bool)} {g : Bool} (hn : a0.tmps.size = n)  (h : FL Tryd.prog l Q rest a0 ((d, g, (.bool (decide (k ≤ m)))) :: L) w) (hd : Nat.blt d n = true := by rfl) (hw : wtG l L gd = some g := by rfl) (hli : lk L i = some (gi, .int .i64 m) := by rfl) (hsi : g = true → gi = true := by first | exact fun _ => rfl | exact id | exact and_l | exact fun h => and_l (and_l h) | exact fun h => and_l (and_l (and_l h)) | exact fun h => and_l (and_l (and_l (and_l h))) | exact fun h => and_l (and_l (and_l (and_l (and_l h))))) (hlj : lk L j = some (gj, .int .i64 k) := by rfl) (hsj : g = true → gj = true := by first | exact fun _ => rfl | exact id | exact and_l | exact fun h => and_l (and_l h) | exact fun h => and_l (and_l (and_l h)) | exact fun h => and_l (and_l (and_l (and_l h))) | exact fun h => and_l (and_l (and_l (and_l (and_l h))))) : FL Tryd.prog l Q (⟨some d, .binOp .geq 3 (.tmp i) (.tmp j) ty2, ty, p, af, gd⟩ :: rest) a0 L w := fl_geq2 hn hd hw hli hsi hlj hsj h
theorem g_ln {d n : Nat} {i m c : Nat} {A : Option Addr} {ts : Array TypeId} {gi : Bool} {ty : TypeId} {p : String} {af : Array Edge} {gd : Option (Nat × Bool)} {g : Bool} (hn : a0.tmps.size = n)  (h : FL Tryd.prog l Q rest a0 ((d, g, (.int .i64 m)) :: L) w) (hd : Nat.blt d n = true := by rfl) (hw : wtG l L gd = some g := by rfl) (hli : lk L i = some (gi, .slice A m c) := by rfl) (hsi : g = true → gi = true := by first | exact fun _ => rfl | exact id | exact and_l | exact fun h => and_l (and_l h) | exact fun h => and_l (and_l (and_l h)) | exact fun h => and_l (and_l (and_l (and_l h))) | exact fun h => and_l (and_l (and_l (and_l (and_l h))))) (hr : (Builtin.len_ ts ty #[.slice A m c]).run Tryd.prog w = .ok (.int .i64 m) w := by kernel_rfl) : FL Tryd.prog l Q (⟨some d, .call { callee := .builtin .len, args := #[.tmp i], argTypes := ts }, ty, p, af, gd⟩ :: rest) a0 L w := fl_len hn hd hw hli hsi hr h
theorem g_c1w {f : FuncId} {i0 d n : Nat} {v0 r : Value} {ts : Array TypeId} {ty : TypeId} {p : String} {af : Array Edge} {gd : Option (Nat × Bool)} {g g0 : Bool} (he : ∀ args w, (callFunc f args).run Tryd.prog w = .ok (.enter f args) w) (hn : a0.tmps.size = n) (hc : Calls Tryd.prog f #[v0] w fun e w' => e = .returned r ∧ Below w.heap.size w w') (h : ∀ w2, Below w.heap.size w w2 → FL Tryd.prog l Q rest a0 ((d, g, r) :: L) w2) (hd : Nat.blt d n = true := by rfl) (hw : wtG l L gd = some g := by rfl) (hl0 : lk L i0 = some (g0, v0) := by rfl) (hs0 : g = true → g0 = true := by first | exact fun _ => rfl | exact id | exact and_l | exact fun h => and_l (and_l h) | exact fun h => and_l (and_l (and_l h)) | exact fun h => and_l (and_l (and_l (and_l h))) | exact fun h => and_l (and_l (and_l (and_l (and_l h))))) : FL Tryd.prog l Q (⟨some d, .call { callee := .value (.func f), args := #[.tmp i0], argTypes := ts }, ty, p, af, gd⟩ :: rest) a0 L w :=
  fl_call1w he hn hd hw hl0 hs0 (fun _ => hc) h
theorem g_c1x {f : FuncId} {i0 d n : Nat} {v0 : Value} {R : Value → World → Prop} {ts : Array TypeId} {ty : TypeId} {p : String} {af : Array Edge} {gd : Option (Nat × Bool)} {g0 : Bool} (he : ∀ args w, (callFunc f args).run Tryd.prog w = .ok (.enter f args) w) (hn : a0.tmps.size = n) (hc : Calls Tryd.prog f #[v0] w fun e w' => ∃ v, e = .returned v ∧ R v w') (h : ∀ v w2, R v w2 → FL Tryd.prog l Q rest a0 ((d, true, v) :: L) w2) (hd : Nat.blt d n = true := by rfl) (hw : wtG l L gd = some true := by rfl) (hl0 : lk L i0 = some (g0, v0) := by rfl) (hs0 : g0 = true := by rfl) : FL Tryd.prog l Q (⟨some d, .call { callee := .value (.func f), args := #[.tmp i0], argTypes := ts }, ty, p, af, gd⟩ :: rest) a0 L w :=
  fl_call1x he hn hd hw hl0 hs0 hc h
theorem g_c2w {f : FuncId} {i0 i1 d n : Nat} {v0 v1 r : Value} {ts : Array TypeId} {ty : TypeId} {p : String} {af : Array Edge} {gd : Option (Nat × Bool)} {g g0 g1 : Bool} (he : ∀ args w, (callFunc f args).run Tryd.prog w = .ok (.enter f args) w) (hn : a0.tmps.size = n) (hc : Calls Tryd.prog f #[v0, v1] w fun e w' => e = .returned r ∧ Below w.heap.size w w') (h : ∀ w2, Below w.heap.size w w2 → FL Tryd.prog l Q rest a0 ((d, g, r) :: L) w2) (hd : Nat.blt d n = true := by rfl) (hw : wtG l L gd = some g := by rfl) (hl0 : lk L i0 = some (g0, v0) := by rfl) (hs0 : g = true → g0 = true := by first | exact fun _ => rfl | exact id | exact and_l | exact fun h => and_l (and_l h) | exact fun h => and_l (and_l (and_l h)) | exact fun h => and_l (and_l (and_l (and_l h))) | exact fun h => and_l (and_l (and_l (and_l (and_l h))))) (hl1 : lk L i1 = some (g1, v1) := by rfl) (hs1 : g = true → g1 = true := by first | exact fun _ => rfl | exact id | exact and_l | exact fun h => and_l (and_l h) | exact fun h => and_l (and_l (and_l h)) | exact fun h => and_l (and_l (and_l (and_l h))) | exact fun h => and_l (and_l (and_l (and_l (and_l h))))) : FL Tryd.prog l Q (⟨some d, .call { callee := .value (.func f), args := #[.tmp i0, .tmp i1], argTypes := ts }, ty, p, af, gd⟩ :: rest) a0 L w :=
  fl_call2w he hn hd hw hl0 hs0 hl1 hs1 (fun _ => hc) h
theorem g_c2x {f : FuncId} {i0 i1 d n : Nat} {v0 v1 : Value} {R : Value → World → Prop} {ts : Array TypeId} {ty : TypeId} {p : String} {af : Array Edge} {gd : Option (Nat × Bool)} {g0 g1 : Bool} (he : ∀ args w, (callFunc f args).run Tryd.prog w = .ok (.enter f args) w) (hn : a0.tmps.size = n) (hc : Calls Tryd.prog f #[v0, v1] w fun e w' => ∃ v, e = .returned v ∧ R v w') (h : ∀ v w2, R v w2 → FL Tryd.prog l Q rest a0 ((d, true, v) :: L) w2) (hd : Nat.blt d n = true := by rfl) (hw : wtG l L gd = some true := by rfl) (hl0 : lk L i0 = some (g0, v0) := by rfl) (hs0 : g0 = true := by rfl) (hl1 : lk L i1 = some (g1, v1) := by rfl) (hs1 : g1 = true := by rfl) : FL Tryd.prog l Q (⟨some d, .call { callee := .value (.func f), args := #[.tmp i0, .tmp i1], argTypes := ts }, ty, p, af, gd⟩ :: rest) a0 L w :=
  fl_call2x he hn hd hw hl0 hs0 hl1 hs1 hc h
end
end Go.Proofs.YtjbmhbnlanbbkaaDoor

namespace Go.Proofs.YtjbmhbnlanbbkaaDoor
open Go.RowKit
section
variable {l : List Oper} {Q : Exit → Act → World → Prop} {rest : List Oper} {a0 : Act} {L : List (Nat × Bool × Value)} {w : World}
theorem callv_is {f : FuncId} (he : ∀ args w, (callFunc f args).run Tryd.prog w = .ok (.enter f args) w) (d : Option Tmp) (xs : Array Operand) (ts : Array TypeId) (ty : TypeId) (p : String) (af : Array Edge) (gd : Option (Nat × Bool)) (ρ : Operand → Value) (vs : Array Value) (h : xs.map ρ = vs) (hf : ρ (.func f) = .func (.func f) #[] #[]) : (execOp ρ ⟨d, .call { callee := .value (.func f), args := xs, argTypes := ts }, ty, p, af, gd⟩).run Tryd.prog w = .ok (.enter f vs) w := by
  subst h
  unfold execOp
  dsimp only
  go_simp
theorem g_cvx {f : FuncId} {xs : Array Operand} {d n : Nat} {vs : Array Value} {R : Value → World → Prop} {ts : Array TypeId} {ty : TypeId} {p : String} {af : Array Edge} {gd : Option (Nat × Bool)} (he : ∀ args w, (callFunc f args).run Tryd.prog w = .ok (.enter f args) w) (hn : a0.tmps.size = n) (hv : (∀ p, p ∈ L → p.1 < a0.tmps.size) → xs.map (fr a0 L).eval = vs) (hc : Calls Tryd.prog f vs w fun e w' => ∃ v, e = .returned v ∧ R v w') (h : ∀ v w2, R v w2 → FL Tryd.prog l Q rest a0 ((d, true, v) :: L) w2) (hd : Nat.blt d n = true := by rfl) (hw : wtG l L gd = some true := by rfl) : FL Tryd.prog l Q (⟨some d, .call { callee := .value (.func f), args := xs, argTypes := ts }, ty, p, af, gd⟩ :: rest) a0 L w :=
  fl_callx hn rfl hd hw (fun hk => callv_is he _ _ _ _ _ _ _ _ vs (hv hk) rfl) hc h
end
end Go.Proofs.YtjbmhbnlanbbkaaDoor

namespace Go.Proofs.YtjbmhbnlanbbkaaDoor
open Go.RowKit Go.MapKept

/-- Block b is a map from numbers that has v at n, just if f tells so. -/
def MpI (W : World) (b : Nat) (f : Int → Option Value) : Prop :=
  ∃ es clock, W.heap[b]? = some (.map es clock) ∧ Stamped es clock ∧ (∀ e, e ∈ es.toList → ∃ n, e.key = .int .i64 n ∧ f n = some e.val) ∧ ∀ n v, f n = some v → ∃ e, e ∈ es.toList ∧ e.key = .int .i64 n ∧ e.val = v
/-- The same, but at n. -/
def upd (f : Int → Option Value) (n : Int) (v : Option Value) : Int → Option Value := fun m => if m = n then v else f m
theorem upd_at (f : Int → Option Value) (n : Int) (v : Option Value) : upd f n v n = v := if_pos rfl
theorem upd_ne {f : Int → Option Value} {n m : Int} {v : Option Value} (h : m ≠ n) : upd f n v m = f m := if_neg h
theorem MpI.lt {W : World} {b : Nat} {f : Int → Option Value} (h : MpI W b f) : b < W.heap.size := by
  obtain ⟨es, clock, hb, -⟩ := h
  exact (Array.getElem?_eq_some_iff.1 hb).1
theorem MpI.same {W W' : World} {b : Nat} {f : Int → Option Value} (h : MpI W b f) (hk : W'.heap[b]? = W.heap[b]?) : MpI W' b f := by
  obtain ⟨es, clock, hb, h2⟩ := h
  exact ⟨es, clock, hk.trans hb, h2⟩
theorem MpI.keep {W W' : World} {b B : Nat} {f : Int → Option Value} (h : MpI W b f) (hb : Below B W W') (hB : b < B) : MpI W' b f := h.same (hb.block b hB)
theorem MpI.other {W W' : World} {b c : Nat} {f : Int → Option Value} (h : MpI W b f) (ho : Only1 c W W') (hne : b ≠ c) : MpI W' b f := h.same (ho.block b hne)
theorem key_int {n m : Int} (h : Value.int .i64 n = .int .i64 m) : n = m := by injection h
theorem keys_of {es : Array MapEntry} {f : Int → Option Value} (h : ∀ e, e ∈ es.toList → ∃ n, e.key = .int .i64 n ∧ f n = some e.val) : ∀ x ∈ es.toList, IsKey (.int .i64) x.key := fun x hx => by
  obtain ⟨n, hn, -⟩ := h x hx
  rw [hn]
  rfl
theorem mpi_new (W : World) : MpI (W.alloc (.map #[] 0)) W.heap.size (fun _ => none) :=
  ⟨#[], 0, by show (W.heap.push _)[W.heap.size]? = _; simp, stamped_empty 0, fun e he => by simp at he, fun n v h => by cases h⟩
section
variable {P : Program} {t k e : TypeId} {W : World} {b : Nat} {f : Int → Option Value}
theorem run_lookI (hm : P.underlying t = some (.map k e)) (hd : P.underlying k = some (.int .i64)) {z : Value} (hz : (zeroValue e).run P W = .ok z W) (h : MpI W b f) (n : Int) :
    (Instr.lookup t (.map (some b)) (.int .i64 n) false).run P W = .ok ((f n).getD z) W := by
  obtain ⟨es, clock, hb, hs, h1, h2⟩ := h
  have hk : IsKey (.int .i64) (.int .i64 n) := rfl
  rcases findNow_spec hk es.toList 0 (keys_of h1) with ⟨g1, g2⟩ | ⟨j, x, g1, g2, g3⟩
  · have hf : f n = none := by
      cases hf : f n with
      | none => rfl
      | some v =>
        obtain ⟨y, hy, ky, -⟩ := h2 n v hf
        exact absurd ky (g2 y hy)
    simp [Instr.lookup, run_underlying hm, MapKept.run_getObj_map hb, run_checkKey hd hk, run_findKey hd g1, Result.andThen, hz, hf]
  · obtain ⟨m, hm', hf⟩ := h1 x (List.mem_of_getElem? g2)
    have : m = n := key_int (hm'.symm.trans g3)
    subst this
    simp [Instr.lookup, run_underlying hm, MapKept.run_getObj_map hb, run_checkKey hd hk, run_findKey hd g1, Result.andThen, hf]
theorem run_lookNil (hm : P.underlying t = some (.map k e)) (hd : P.underlying k = some (.int .i64)) {z : Value} (hz : (zeroValue e).run P W = .ok z W) (n : Int) :
    (Instr.lookup t (.map none) (.int .i64 n) false).run P W = .ok z W := by
  have hk : IsKey (.int .i64) (.int .i64 n) := rfl
  have g1 : Instr.findNow (.int .i64) (.int .i64 n) [] 0 = some none := rfl
  simp [Instr.lookup, run_underlying hm, run_checkKey hd hk, run_findKey hd g1, Result.andThen, hz]
theorem run_putI (hm : P.underlying t = some (.map k e)) (hd : P.underlying k = some (.int .i64)) (h : MpI W b f) (n : Int) (v : Value) :
    ∃ W', (Instr.mapUpdate t (.map (some b)) (.int .i64 n) v).run P W = .ok () W' ∧ Only1 b W W' ∧ MpI W' b (upd f n (some v)) := by
  obtain ⟨es, clock, hb, hs, h1, h2⟩ := h
  have hk : IsKey (.int .i64) (.int .i64 n) := rfl
  rcases findNow_spec hk es.toList 0 (keys_of h1) with ⟨g1, g2⟩ | ⟨j, x, g1, g2, g3⟩
  · refine ⟨{ W with heap := W.heap.setIfInBounds b (.map (es.push { key := .int .i64 n, val := v, born := clock }) (clock + 1)) }, by simp [Instr.mapUpdate, run_underlying hm, MapKept.run_getObj_map hb, run_checkKey hd hk, run_findKey hd g1, run_setObj_map _ hb, Result.andThen], only_set _ _ _, _, _, (heap_set hb).1, stamped_push hs g2, ?_, ?_⟩
    · intro y hy
      simp only [Array.toList_push, List.mem_append, List.mem_singleton] at hy
      rcases hy with hy | rfl
      · obtain ⟨m, hm', hf⟩ := h1 y hy
        have hne : m ≠ n := fun q => g2 y hy (by rw [hm', q])
        exact ⟨m, hm', by rw [upd_ne hne]; exact hf⟩
      · exact ⟨n, rfl, upd_at ..⟩
    · intro m u hu
      by_cases q : m = n
      · subst q
        rw [upd_at] at hu
        cases hu
        exact ⟨{ key := .int .i64 m, val := v, born := clock }, by simp, rfl, rfl⟩
      · rw [upd_ne q] at hu
        obtain ⟨y, hy, ky, vy⟩ := h2 m u hu
        exact ⟨y, by simp [hy], ky, vy⟩
  · have hj : es[j]? = some x := by simpa using g2
    have hkey : ∀ e', es[j]? = some e' → ({ e' with key := .int .i64 n, val := v } : MapEntry).key = e'.key := fun e' he' => by rw [hj] at he'; cases he'; exact g3.symm
    have hlt : j < es.size := (Array.getElem?_eq_some_iff.1 hj).1
    refine ⟨{ W with heap := W.heap.setIfInBounds b (.map (es.modify j fun e => { e with key := .int .i64 n, val := v }) clock) }, by simp [Instr.mapUpdate, run_underlying hm, MapKept.run_getObj_map hb, run_checkKey hd hk, run_findKey hd g1, hj, g3, run_keyThatStays hk, run_setObj_map _ hb, Result.andThen], only_set _ _ _, _, _, (heap_set hb).1, stamped_modify hs j (fun e => { e with key := .int .i64 n, val := v }) (fun _ _ => rfl) (fun e' _ he' => hkey e' he'), ?_, ?_⟩
    · intro y hy
      obtain ⟨i, hi⟩ := List.getElem?_of_mem hy
      rw [Array.getElem?_toList, Array.getElem?_modify] at hi
      by_cases q : j = i
      · subst q
        rw [if_pos rfl, hj] at hi
        cases hi
        exact ⟨n, rfl, upd_at ..⟩
      · rw [if_neg q] at hi
        obtain ⟨m, hm', hf⟩ := h1 y (List.mem_of_getElem? ((Array.getElem?_toList ..).trans hi))
        refine ⟨m, hm', ?_⟩
        rw [upd_ne ?_]
        · exact hf
        · rintro rfl
          have hn := hs.2.2
          have e1 : (es.toList.map (·.key))[j]? = some (Value.int .i64 m) := by rw [List.getElem?_map, g2]; exact congrArg some g3
          have e2 : (es.toList.map (·.key))[i]? = some (Value.int .i64 m) := by rw [List.getElem?_map, Array.getElem?_toList, hi]; exact congrArg some hm'
          exact q ((List.getElem?_inj (by simpa using hlt) hn).1 (e1.trans e2.symm))
    · intro m u hu
      by_cases q : m = n
      · subst q
        rw [upd_at] at hu
        cases hu
        refine ⟨{ x with key := .int .i64 m, val := v }, List.mem_of_getElem? (i := j) ?_, rfl, rfl⟩
        rw [Array.getElem?_toList, Array.getElem?_modify, if_pos rfl, hj]
        rfl
      · rw [upd_ne q] at hu
        obtain ⟨y, hy, ky, vy⟩ := h2 m u hu
        obtain ⟨i, hi⟩ := List.getElem?_of_mem hy
        refine ⟨y, List.mem_of_getElem? (i := i) ?_, ky, vy⟩
        rw [Array.getElem?_toList, Array.getElem?_modify, if_neg, ← Array.getElem?_toList]
        · exact hi
        · rintro rfl
          rw [g2] at hi
          cases hi
          exact q (key_int (ky.symm.trans g3))
theorem run_delI {ty : TypeId} {ts : Array TypeId} (ht : ts[0]? = some t) (hm : P.underlying t = some (.map k e)) (hd : P.underlying k = some (.int .i64)) (h : MpI W b f) (n : Int) :
    ∃ W', (Builtin.delete_ ts ty #[.map (some b), .int .i64 n]).run P W = .ok (.tuple #[]) W' ∧ Only1 b W W' ∧ MpI W' b (upd f n none) := by
  obtain ⟨es, clock, hb, hs, h1, h2⟩ := h
  have hk : IsKey (.int .i64) (.int .i64 n) := rfl
  rcases findNow_spec hk es.toList 0 (keys_of h1) with ⟨g1, g2⟩ | ⟨j, x, g1, g2, g3⟩
  · refine ⟨{ W with heap := W.heap.setIfInBounds b (.map es clock) }, by simp [Builtin.delete_, ht, run_underlying hm, MapKept.run_getObj_map hb, run_checkKey hd hk, run_findKey hd g1, run_setObj_map _ hb, Result.andThen], only_set _ _ _, es, clock, (heap_set hb).1, hs, ?_, ?_⟩
    · intro y hy
      obtain ⟨m, hm', hf⟩ := h1 y hy
      have hne : m ≠ n := fun q => g2 y hy (by rw [hm', q])
      exact ⟨m, hm', by rw [upd_ne hne]; exact hf⟩
    · intro m u hu
      by_cases q : m = n
      · rw [q, upd_at] at hu; cases hu
      · rw [upd_ne q] at hu
        exact h2 m u hu
  · have hlt : j < es.size := by have := (List.getElem?_eq_some_iff.1 g2).1; simpa using this
    have hj : es[j]? = some x := by simpa using g2
    have hn := hs.2.2
    have eE : (es.eraseIdxIfInBounds j).toList = es.toList.eraseIdx j := by
      unfold Array.eraseIdxIfInBounds
      rw [dif_pos hlt]
      simp
    refine ⟨{ W with heap := W.heap.setIfInBounds b (.map (es.eraseIdxIfInBounds j) clock) }, by simp [Builtin.delete_, ht, run_underlying hm, MapKept.run_getObj_map hb, run_checkKey hd hk, run_findKey hd g1, run_setObj_map _ hb, Result.andThen], only_set _ _ _, _, clock, (heap_set hb).1, stamped_erase hs j, ?_, ?_⟩
    · intro y hy
      rw [eE, List.mem_eraseIdx_iff_getElem?] at hy
      obtain ⟨i, hne, hi⟩ := hy
      obtain ⟨m, hm', hf⟩ := h1 y (List.mem_of_getElem? hi)
      refine ⟨m, hm', ?_⟩
      rw [upd_ne ?_]
      · exact hf
      · rintro rfl
        have e1 : (es.toList.map (·.key))[j]? = some (Value.int .i64 m) := by rw [List.getElem?_map, g2]; exact congrArg some g3
        have e2 : (es.toList.map (·.key))[i]? = some (Value.int .i64 m) := by rw [List.getElem?_map, hi]; exact congrArg some hm'
        exact hne ((List.getElem?_inj (by simpa using hlt) hn).1 (e1.trans e2.symm)).symm
    · intro m u hu
      by_cases q : m = n
      · rw [q, upd_at] at hu; cases hu
      · rw [upd_ne q] at hu
        obtain ⟨y, hy, ky, vy⟩ := h2 m u hu
        obtain ⟨i, hi⟩ := List.getElem?_of_mem hy
        refine ⟨y, ?_, ky, vy⟩
        rw [eE, List.mem_eraseIdx_iff_getElem?]
        refine ⟨i, ?_, hi⟩
        rintro rfl
        rw [g2] at hi
        cases hi
        exact q (key_int (ky.symm.trans g3))
end
end Go.Proofs.YtjbmhbnlanbbkaaDoor
