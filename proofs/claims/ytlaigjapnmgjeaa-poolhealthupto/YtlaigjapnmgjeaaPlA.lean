/- Maps by texts: of numbers, of bouts; blocks that stay. -/
import Derived.Test.YtlaigjapnmgjeaaRows
import Derived.WalkKit
import Derived.WalkSpells
import Derived.WalkLawsBesides
import Derived.Laws.Pointers
import Derived.Deep.QuietTactic
import Derived.BigQuiet
import Derived.BigRegion
import Derived.RegionTactic
import Derived.Below
import Derived.Deep.RegionHeld3
import Derived.StringKeys
import Derived.Maps.OwnOps
import Derived.Maps.OwnSet
import Derived.Maps.Views
namespace Go.Proofs.Ytlaigjapnmgjeaa
open Go.RowKit
set_option linter.unusedVariables false

theorem hidE {p : Prop} (h : p) : Hid p := h
def InR (c : Int) : Prop := -9223372036854775808 ≤ c ∧ c ≤ 9223372036854775807
theorem tblk_cell {w : World} {b o : Nat} {cs : Array Value} {t : TypeId} {v : Value} (h : w.heap[b]? = some (.cells cs t)) (hv : cs[o]? = some v) : w.cell? ⟨b, o, none⟩ = some v := by
  simp [World.cell?, h, hv]
theorem tblk_new (w : World) (o : Obj) : (w.alloc o).heap[w.heap.size]? = some o := by
  show (w.heap.push o)[w.heap.size]? = _; simp
/-- 'm[k] = v', its run known. -/
theorem wpList_mapUpdate_run {P : Program} (w : World) {ops : Array Oper} {rest : List Oper} {o : Oper} {a : Act} {Q : Exit → Act → World → Prop}
    (hg : o.guard = none) (m x v : Operand) (t : TypeId) (hop : o.op = Op.mapUpdate t m x v) (mv key val : Value) (w' : World) (hm : a.eval m = mv) (hx : a.eval x = key) (hv : a.eval v = val)
    (hrun : (Instr.mapUpdate t mv key val).run P w = .ok () w') (hK : wpList P ops Q rest (a.put o.dst undef) w') : wpList P ops Q (o :: rest) a w := by
  refine wpList_plain hg fun K' hK' => ?_
  unfold Oper.wp
  simp [execOp, hop, hm, hx, hv, hrun, Result.andThen]
  exact hK' _ _ hK
/-- 'delete(m, k)', its run known. -/
theorem wpList_delete_run {P : Program} (w : World) {ops : Array Oper} {rest : List Oper} {o : Oper} {a : Act} {Q : Exit → Act → World → Prop}
    (hg : o.guard = none) (m x : Operand) (t k : TypeId) (hop : o.op = Op.call { callee := Callee.builtin Builtin.delete, args := #[m, x], argTypes := #[t, k] }) (mv key : Value) (w' : World) (hm : a.eval m = mv) (hx : a.eval x = key)
    (hrun : ∀ ty, (Builtin.delete_ #[t, k] ty #[mv, key]).run P w = .ok (.tuple #[]) w') (hK : wpList P ops Q rest (a.put o.dst (.tuple #[])) w') : wpList P ops Q (o :: rest) a w := by
  refine wpList_plain hg fun K' hK' => ?_
  unfold Oper.wp
  simp [execOp, hop, resolve, invoke, builtin, hm, hx, hrun, Result.andThen]
  exact hK' _ _ hK
abbrev KS := ByteArray
/-- Turned at one text. -/
def upd {α : Type} (t : KS → α) (s : KS) (y : α) : KS → α := fun u => if u = s then y else t u
theorem upd_same {α : Type} (t : KS → α) (s : KS) (y : α) : upd t s y s = y := if_pos rfl
theorem upd_other {α : Type} (t : KS → α) {s u : KS} (y : α) (h : u ≠ s) : upd t s y u = t u := if_neg h
def kL (s : KS) : Lit := .string s.data.toList
theorem kL_ne {s u : KS} (h : u ≠ s) : kL u ≠ kL s := fun e => h (by
  unfold kL at e
  injection e with e
  cases u; cases s
  congr
  exact Array.toList_inj.1 e)
theorem KSt : Maps.Keyed Try.prog 9 := Maps.string_keyed Try.underlying9
theorem key_of {s : KS} (hs : s.size ≤ maxLen) : keyOf Try.prog 9 (.string s) = some (kL s) := WideMaps.keyOf_string_mk Try.underlying9 hs
/-- A map of numbers by texts. -/
def IM (w : World) (m n : Nat) (t : KS → Int) : Prop := ∃ D : DataW Nat, w.ownsMap Try.prog 9 (plainElem Try.prog 3) m n D ∧ ∀ s : KS, D.atKey (kL s) (.lit (.int .i64 0)) = .lit (.int .i64 (t s))
theorem IM.lt {w : World} {m n : Nat} {t : KS → Int} (h : IM w m n t) : m < w.heap.size := by obtain ⟨D, h1, _⟩ := h; exact h1.lt
theorem IM.blk {w : World} {m n : Nat} {t : KS → Int} (h : IM w m n t) : ∃ es cl, w.heap[m]? = some (.map es cl) := by obtain ⟨D, ⟨es, cl, h1, _⟩, _⟩ := h; exact ⟨es, cl, h1⟩
theorem IM.mono {w : World} {m n n' : Nat} {t : KS → Int} (h : IM w m n t) (hn : n ≤ n') : IM w m n' t := by obtain ⟨D, h1, h2⟩ := h; exact ⟨D, h1.mono hn, h2⟩
theorem IM.move {w w' : World} {m n : Nat} {t : KS → Int} (h : IM w m n t) (e : w'.heap[m]? = w.heap[m]?) : IM w' m n t := by
  obtain ⟨D, ⟨es, cl, h1, r⟩, h2⟩ := h
  exact ⟨D, ⟨es, cl, e.trans h1, r⟩, h2⟩
theorem IM.new (w : World) : IM (w.alloc (.map #[] 0)) w.heap.size 0 (fun _ => 0) := ⟨.map [], World.ownsMap_made (H := Nat) w Try.prog 9 (plainElem Try.prog 3), fun s => WideAt.atKey_none _ (fun p hp => by cases hp)⟩
theorem lit_inj {a b : Int} (h : (DataW.lit (.int .i64 a) : DataW Nat) = .lit (.int .i64 b)) : a = b := by
  injection h with h
  injection h
theorem IM.look {w : World} {m n : Nat} {t : KS → Int} (h : IM w m n t) {s : KS} (hs : s.size ≤ maxLen) : (Instr.lookup 92 (.map (some m)) (.string s) false).run Try.prog w = .ok (.int .i64 (t s)) w := by
  obtain ⟨D, h1, h2⟩ := h
  obtain ⟨c, hrun, hat, _⟩ := h1.lookup_int KSt Try.underlying92 Try.underlying3 (Try.zeroValue3 _) (key_of hs)
  rw [h2 s] at hat
  rw [hrun, ← lit_inj hat]
theorem IM.put {w : World} {m n : Nat} {t : KS → Int} (h : IM w m n t) (hn : n < maxLen) {s : KS} (hs : s.size ≤ maxLen) {y : Int} (hy : InR y) : ∃ w', (Instr.mapUpdate 92 (.map (some m)) (.string s) (.int .i64 y)).run Try.prog w = .ok () w' ∧ IM w' m (n + 1) (upd t s y) ∧ w.grownBy w' (some m) := by
  obtain ⟨D, h1, h2⟩ := h
  obtain ⟨w', r, o, g⟩ := h1.update KSt Try.underlying92 hn (key_of hs) (plainElem_int Try.underlying3 (WalkArith.wf_i64 hy))
  refine ⟨w', r, ⟨_, o, fun u => ?_⟩, g⟩
  by_cases e : u = s
  · rw [e, upd_same, Maps.atKey_put_same h1.isMap (by exact trivial)]
  · rw [upd_other _ _ e, Maps.atKey_put_other (kL_ne e), h2 u]
theorem IM.del {w : World} {m n : Nat} {t : KS → Int} (h : IM w m n t) {s : KS} (hs : s.size ≤ maxLen) : ∃ w', (∀ ty, (Builtin.delete_ #[92, 9] ty #[.map (some m), .string s]).run Try.prog w = .ok (.tuple #[]) w') ∧ IM w' m n (upd t s 0) ∧ w.grownBy w' (some m) := by
  obtain ⟨D, h1, h2⟩ := h
  obtain ⟨es, cl, hb, F, hsz, rfl⟩ := h1
  obtain ⟨es', hrun, F', hle, hdel, _⟩ := Maps.fit_drop (ty := 0) KSt Try.underlying92 hb F (key_of hs)
  have hrun' : ∀ ty, (Builtin.delete_ #[92, 9] ty #[.map (some m), .string s]).run Try.prog w = _ := fun ty => (show (Builtin.delete_ #[92, 9] ty #[.map (some m), .string s]).run Try.prog w = (Builtin.delete_ #[92, 9] 0 #[.map (some m), .string s]).run Try.prog w from rfl).trans hrun
  refine ⟨_, hrun', ⟨_, ⟨es', cl, ChangeMaps.heap_setBlock_same hb _, F', Nat.le_trans hle hsz, rfl⟩, fun u => ?_⟩, ?_⟩
  · rw [hdel, ← DataW.del_eq]
    by_cases e : u = s
    · rw [e, upd_same]
      exact Maps.atKey_del_same _
    · rw [upd_other _ _ e]
      have q := Maps.atKey_del_other (D := .map ((es.toList.map (WideElems.rg Try.prog 9 (plainElem (H := Nat) Try.prog 3))).foldr DataW.insert [])) (kL_ne e) (DataW.lit (Lit.int IntKind.i64 0))
      exact q.trans (h2 u)
  · exact World.mapTurned.grown ⟨es, cl, es', cl, hb, rfl⟩
end Go.Proofs.Ytlaigjapnmgjeaa
