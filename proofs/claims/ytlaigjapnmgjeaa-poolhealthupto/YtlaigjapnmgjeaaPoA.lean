/- Pool in memory: a map of handles by number; a row of numbers. -/
import Derived.Test.YtlaigjapnmgjeaaHlB
import Derived.Test.YtlaigjapnmgjeaaHlI
namespace Go.Proofs.Ytlaigjapnmgjeaa
open Go.RowKit
set_option linter.unusedVariables false

/-- How a handle reads. -/
def handE (v : Value) : Option (DataW Nat × List MemPlace) :=
  match v with
  | .agg xs => match xs.toList with
    | [.string s, .int .i64 b] => some (.agg [.lit (.string s.data.toList), .lit (.int .i64 b)], [])
    | _ => none
  | _ => none
abbrev Hd := KS × Int
def handD (x : Hd) : DataW Nat := .agg [.lit (.string x.1.data.toList), .lit (.int .i64 x.2)]
theorem handE_mk (s : KS) (b : Int) : handE (.agg #[.string s, .int .i64 b]) = some (handD (s, b), []) := rfl
theorem handE_inv {v : Value} {z : DataW Nat × List MemPlace} (h : handE v = some z) : ∃ s b, v = .agg #[.string s, .int .i64 b] ∧ z = (handD (s, b), []) := by
  unfold handE at h
  split at h
  · rename_i xs
    split at h
    · rename_i a b hx
      refine ⟨a, b, ?_, ?_⟩
      · congr 1
        exact Array.toList_inj.1 hx
      · exact (Option.some.inj h).symm
    · cases h
  · cases h
theorem handD_inj {x y : Hd} (h : handD x = handD y) : x = y := by
  unfold handD at h
  injection h with h
  injection h with h1 h2
  injection h2 with h2 _
  have e2 := lit_inj h2
  have e1 : x.1 = y.1 := by
    by_cases e : x.1 = y.1
    · exact e
    · injection h1 with h1
      exact absurd h1 (kL_ne e)
  exact Prod.ext e1 e2
abbrev HF := Int → Option Hd
def updI {α : Type} (t : Int → α) (s : Int) (y : α) : Int → α := fun u => if u = s then y else t u
theorem updI_same {α : Type} (t : Int → α) (s : Int) (y : α) : updI t s y s = y := if_pos rfl
theorem updI_other {α : Type} (t : Int → α) {s u : Int} (y : α) (h : u ≠ s) : updI t s y u = t u := if_neg h
theorem KIt : Maps.Keyed Try.prog 3 := Maps.int_keyed Try.underlying3
theorem keyI {h : Int} (hr : InR h) : keyOf Try.prog 3 (.int .i64 h) = some (.int .i64 h) := Maps.keyOf_int_mk Try.underlying3 (WalkArith.wf_i64 hr)
theorem iL_ne {s u : Int} (h : u ≠ s) : (Lit.int .i64 u) ≠ .int .i64 s := fun e => h (by injection e)
/-- A map of handles: n entries at most, just N. -/
def HM (w : World) (m n N : Nat) (q : HF) : Prop := ∃ D : DataW Nat, w.ownsMap Try.prog 3 handE m n D ∧ Maps.size D = N ∧ ∀ h : Int, Maps.has D (.int .i64 h) = (q h).isSome ∧ ∀ x, q h = some x → ∀ zd, D.atKey (.int .i64 h) zd = handD x
theorem HM.lt {w : World} {m n N : Nat} {q : HF} (h : HM w m n N q) : m < w.heap.size := by obtain ⟨D, h1, _⟩ := h; exact h1.lt
theorem HM.blk {w : World} {m n N : Nat} {q : HF} (h : HM w m n N q) : ∃ es cl, w.heap[m]? = some (.map es cl) := by obtain ⟨D, ⟨es, cl, h1, _⟩, _⟩ := h; exact ⟨es, cl, h1⟩
theorem HM.move {w w' : World} {m n N : Nat} {q : HF} (h : HM w m n N q) (e : w'.heap[m]? = w.heap[m]?) : HM w' m n N q := by
  obtain ⟨D, ⟨es, cl, h1, r⟩, h2⟩ := h
  exact ⟨D, ⟨es, cl, e.trans h1, r⟩, h2⟩
theorem HM.new (w : World) : HM (w.alloc (.map #[] 0)) w.heap.size 0 0 (fun _ => none) := ⟨.map [], World.ownsMap_made (H := Nat) w Try.prog 3 handE, rfl, fun s => ⟨rfl, fun x hx => by cases hx⟩⟩
theorem zeroHand (w : World) : (zeroValue 87).run Try.prog w = .ok (.agg #[.string ⟨#[]⟩, .int .i64 0]) w := Try.zeroValue87 w
/-- What a look-up answers. -/
def lookH (o : Option Hd) : Hd := o.getD (⟨#[]⟩, 0)
theorem HM.look {w : World} {m n N : Nat} {q : HF} (h : HM w m n N q) {s : Int} (hs : InR s) : (Instr.lookup 75 (.map (some m)) (.int .i64 s) false).run Try.prog w = .ok (.agg #[.string (lookH (q s)).1, .int .i64 (lookH (q s)).2]) w := by
  obtain ⟨D, h1, _, h2⟩ := h
  obtain ⟨v, ps, hrun, hv⟩ := h1.lookup KIt Try.underlying75 (zeroHand _) (handE_mk ⟨#[]⟩ 0) (keyI hs)
  obtain ⟨a, b, rfl, hz⟩ := handE_inv hv
  have hz1 : D.atKey (.int .i64 s) (handD (⟨#[]⟩, 0)) = handD (a, b) := congrArg Prod.fst hz
  rw [hrun]
  cases hq : q s with
  | none =>
    have hh := (h2 s).1
    rw [hq] at hh
    rw [Maps.atKey_of_not_has hh] at hz1
    have e := handD_inj hz1
    cases e
    rfl
  | some x =>
    rw [(h2 s).2 x hq] at hz1
    have e := handD_inj hz1
    obtain ⟨x1, x2⟩ := x
    cases e
    rfl
theorem HM.len {w : World} {m n N : Nat} {q : HF} (h : HM w m n N q) (ty : TypeId) : (Builtin.len_ #[75] ty #[.map (some m)]).run Try.prog w = .ok (.int .i64 N) w := by
  obtain ⟨D, h1, h3, _⟩ := h
  rw [h1.len Try.underlying75 ty, h3]
theorem HM.put {w : World} {m n N : Nat} {q : HF} (h : HM w m n N q) (hn : n < maxLen) {s : Int} (hs : InR s) (x : KS) (y : Int) : ∃ w', (Instr.mapUpdate 75 (.map (some m)) (.int .i64 s) (.agg #[.string x, .int .i64 y])).run Try.prog w = .ok () w' ∧ HM w' m (n + 1) (if (q s).isSome then N else N + 1) (updI q s (some (x, y))) ∧ w.grownBy w' (some m) := by
  obtain ⟨D, h1, h3, h2⟩ := h
  obtain ⟨w', r, o, g⟩ := h1.update KIt Try.underlying75 hn (keyI hs) (handE_mk x y)
  refine ⟨w', r, ⟨_, o, ?_, fun u => ?_⟩, g⟩
  · rw [Maps.size_put (h1.tidy KIt), (h2 s).1, h3]
  · by_cases e : u = s
    · rw [e, updI_same]
      refine ⟨Maps.has_put_same h1.isMap (by exact trivial) _, fun z hz zd => ?_⟩
      obtain rfl : (x, y) = z := Option.some.inj hz
      rw [Maps.atKey_put_same h1.isMap (by exact trivial)]
    · rw [updI_other _ _ e]
      refine ⟨by rw [Maps.has_put_other (iL_ne e), (h2 u).1], fun z hz zd => ?_⟩
      rw [Maps.atKey_put_other (iL_ne e), (h2 u).2 z hz]
theorem HM.del {w : World} {m n N : Nat} {q : HF} (h : HM w m n N q) {s : Int} (hs : InR s) : ∃ w', (∀ ty, (Builtin.delete_ #[75, 3] ty #[.map (some m), .int .i64 s]).run Try.prog w = .ok (.tuple #[]) w') ∧ HM w' m n (if (q s).isSome then N - 1 else N) (updI q s none) ∧ w.grownBy w' (some m) := by
  obtain ⟨D, h1, h3, h2⟩ := h
  have htd := h1.tidy KIt
  obtain ⟨es, cl, hb, F, hsz, rfl⟩ := h1
  obtain ⟨es', hrun, F', hle, hdel, _⟩ := Maps.fit_drop (ty := 0) KIt Try.underlying75 hb F (keyI hs)
  have hrun' : ∀ ty, (Builtin.delete_ #[75, 3] ty #[.map (some m), .int .i64 s]).run Try.prog w = _ := fun ty => (show (Builtin.delete_ #[75, 3] ty #[.map (some m), .int .i64 s]).run Try.prog w = (Builtin.delete_ #[75, 3] 0 #[.map (some m), .int .i64 s]).run Try.prog w from rfl).trans hrun
  refine ⟨_, hrun', ⟨_, ⟨es', cl, ChangeMaps.heap_setBlock_same hb _, F', Nat.le_trans hle hsz, rfl⟩, ?_, fun u => ?_⟩, World.mapTurned.grown ⟨es, cl, es', cl, hb, rfl⟩⟩
  · rw [hdel, ← DataW.del_eq]
    have k := Maps.size_del (k := .int .i64 s) htd
    rw [(h2 s).1, h3] at k
    split at k <;> rename_i hq
    · rw [if_pos hq]; omega
    · rw [if_neg hq]; omega
  · rw [hdel, ← DataW.del_eq]
    by_cases e : u = s
    · rw [e, updI_same]
      exact ⟨Maps.has_del_same, fun z hz => by cases hz⟩
    · rw [updI_other _ _ e]
      refine ⟨by rw [Maps.has_del_other (iL_ne e), (h2 u).1], fun z hz zd => ?_⟩
      rw [Maps.atKey_del_other (iL_ne e), (h2 u).2 z hz]
end Go.Proofs.Ytlaigjapnmgjeaa
