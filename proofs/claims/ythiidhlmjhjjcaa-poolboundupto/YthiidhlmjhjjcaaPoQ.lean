/- A map of marks by number, and how many there are. -/
import Derived.Test.YthiidhlmjhjjcaaPoA
namespace Go.Proofs.Ythiidhlmjhjjcaa
open Go.RowKit
set_option linter.unusedVariables false

/-- How a mark reads. -/
def markE (v : Value) : Option (DataW Nat × List MemPlace) :=
  match v with
  | .bool b => some (.lit (.bool b), [])
  | _ => none
theorem markE_mk (b : Bool) : markE (.bool b) = some (.lit (.bool b), []) := rfl
theorem markE_inv {v : Value} {z : DataW Nat × List MemPlace} (h : markE v = some z) : ∃ b, v = .bool b ∧ z = (.lit (.bool b), []) := by
  unfold markE at h
  split at h
  · rename_i b
    exact ⟨b, rfl, (Option.some.inj h).symm⟩
  · cases h
theorem markD_inj {a b : Bool} (h : (DataW.lit (.bool a) : DataW Nat) = .lit (.bool b)) : a = b := by cases h; rfl
/-- A map in which just the numbers of q are marked: n entries at most, just N. -/
def KM (w : World) (m n N : Nat) (q : Int → Bool) : Prop := ∃ D : DataW Nat, w.ownsMap Try.prog 3 markE m n D ∧ Maps.size D = N ∧ ∀ h : Int, Maps.has D (.int .i64 h) = q h ∧ (q h = true → ∀ zd, D.atKey (.int .i64 h) zd = .lit (.bool true))
theorem KM.lt {w : World} {m n N : Nat} {q : Int → Bool} (h : KM w m n N q) : m < w.heap.size := by obtain ⟨D, h1, _⟩ := h; exact h1.lt
theorem KM.move {w w' : World} {m n N : Nat} {q : Int → Bool} (h : KM w m n N q) (e : w'.heap[m]? = w.heap[m]?) : KM w' m n N q := by
  obtain ⟨D, ⟨es, cl, h1, r⟩, h2⟩ := h
  exact ⟨D, ⟨es, cl, e.trans h1, r⟩, h2⟩
theorem KM.new (w : World) : KM (w.alloc (.map #[] 0)) w.heap.size 0 0 (fun _ => false) := ⟨.map [], World.ownsMap_made (H := Nat) w Try.prog 3 markE, rfl, fun s => ⟨rfl, fun hx => by cases hx⟩⟩
theorem zeroMark (w : World) : (zeroValue 4).run Try.prog w = .ok (.bool false) w := Try.zeroValue4 w
theorem KM.look {w : World} {m n N : Nat} {q : Int → Bool} (h : KM w m n N q) {s : Int} (hs : InR s) : (Instr.lookup 75 (.map (some m)) (.int .i64 s) false).run Try.prog w = .ok (.bool (q s)) w := by
  obtain ⟨D, h1, _, h2⟩ := h
  obtain ⟨v, ps, hrun, hv⟩ := h1.lookup KIt Try.underlying75 (zeroMark _) (markE_mk false) (keyI hs)
  obtain ⟨b, rfl, hz⟩ := markE_inv hv
  have hz1 : D.atKey (.int .i64 s) (.lit (.bool false)) = .lit (.bool b) := congrArg Prod.fst hz
  rw [hrun]
  cases hq : q s with
  | false =>
    have hh := (h2 s).1
    rw [hq] at hh
    rw [Maps.atKey_of_not_has hh] at hz1
    rw [← markD_inj hz1]
  | true =>
    rw [(h2 s).2 hq] at hz1
    rw [← markD_inj hz1]
theorem KM.len {w : World} {m n N : Nat} {q : Int → Bool} (h : KM w m n N q) (ty : TypeId) : (Builtin.len_ #[75] ty #[.map (some m)]).run Try.prog w = .ok (.int .i64 N) w := by
  obtain ⟨D, h1, h3, _⟩ := h
  rw [h1.len Try.underlying75 ty, h3]
theorem KM.put {w : World} {m n N : Nat} {q : Int → Bool} (h : KM w m n N q) (hn : n < maxLen) {s : Int} (hs : InR s) : ∃ w', (Instr.mapUpdate 75 (.map (some m)) (.int .i64 s) (.bool true)).run Try.prog w = .ok () w' ∧ KM w' m (n + 1) (if q s then N else N + 1) (updI q s true) ∧ w.grownBy w' (some m) := by
  obtain ⟨D, h1, h3, h2⟩ := h
  obtain ⟨w', r, o, g⟩ := h1.update KIt Try.underlying75 hn (keyI hs) (markE_mk true)
  refine ⟨w', r, ⟨_, o, ?_, fun u => ?_⟩, g⟩
  · rw [Maps.size_put (h1.tidy KIt), (h2 s).1, h3]
  · by_cases e : u = s
    · rw [e, updI_same]
      refine ⟨Maps.has_put_same h1.isMap (by exact trivial) _, fun hz zd => ?_⟩
      rw [Maps.atKey_put_same h1.isMap (by exact trivial)]
    · rw [updI_other _ _ e]
      refine ⟨by rw [Maps.has_put_other (iL_ne e), (h2 u).1], fun hz zd => ?_⟩
      rw [Maps.atKey_put_other (iL_ne e), (h2 u).2 hz]
theorem KM.del {w : World} {m n N : Nat} {q : Int → Bool} (h : KM w m n N q) {s : Int} (hs : InR s) : ∃ w', (∀ ty, (Builtin.delete_ #[75, 3] ty #[.map (some m), .int .i64 s]).run Try.prog w = .ok (.tuple #[]) w') ∧ KM w' m n (if q s then N - 1 else N) (updI q s false) ∧ w.grownBy w' (some m) := by
  obtain ⟨D, h1, h3, h2⟩ := h
  have htd := h1.tidy KIt
  obtain ⟨es, cl, hb, F, hsz, rfl⟩ := h1
  obtain ⟨es', hrun, F', hle, hdel, _⟩ := Maps.fit_drop (ty := 0) KIt Try.underlying75 hb F (keyI hs)
  have hrun' : ∀ ty, (Builtin.delete_ #[75, 3] ty #[.map (some m), .int .i64 s]).run Try.prog w = _ := fun ty => (show (Builtin.delete_ #[75, 3] ty #[.map (some m), .int .i64 s]).run Try.prog w = (Builtin.delete_ #[75, 3] 0 #[.map (some m), .int .i64 s]).run Try.prog w from rfl).trans hrun
  refine ⟨_, hrun', ⟨_, ⟨es', cl, ChangeMaps.heap_setBlock_same hb _, F', Nat.le_trans hle hsz, rfl⟩, ?_, fun u => ?_⟩, World.mapTurned.grown ⟨es, cl, es', cl, hb, rfl⟩⟩
  · rw [hdel, ← DataW.del_eq]
    have k := Maps.size_del (k := .int .i64 s) htd
    rw [(h2 s).1, h3] at k
    split at k <;> rename_i hq
    · rw [if_pos hq]; omega
    · rw [if_neg hq]; omega
  · rw [hdel, ← DataW.del_eq]
    by_cases e : u = s
    · rw [e, updI_same]
      exact ⟨Maps.has_del_same, fun hz => by cases hz⟩
    · rw [updI_other _ _ e]
      refine ⟨by rw [Maps.has_del_other (iL_ne e), (h2 u).1], fun hz zd => ?_⟩
      rw [Maps.atKey_del_other (iL_ne e), (h2 u).2 hz]
end Go.Proofs.Ythiidhlmjhjjcaa
