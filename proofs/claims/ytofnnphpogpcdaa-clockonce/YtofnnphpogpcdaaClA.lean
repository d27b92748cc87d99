/- Clock's queue in memory: Len, Less, Swap. -/
import Derived.Test.YtofnnphpogpcdaaClP
import Derived.WalkKit
import Derived.WalkSpells
import Derived.WalkLawsBesides
import Derived.Laws.Pointers
import Derived.Deep.QuietTactic
import Derived.BigQuiet
import Derived.BigRegion
import Derived.RegionTactic
import Derived.Below
import Derived.Deep.RegionHeld3
import Derived.Maps.OwnOps
import Derived.Maps.OwnSet
import Derived.Maps.Views
namespace Go.Proofs.Ytofnnphpogpcdaa
open Go.RowKit
set_option linter.unusedVariables false

theorem hidE {p : Prop} (h : p) : Hid p := h
def InR (c : Int) : Prop := -9223372036854775808 ≤ c ∧ c ≤ 9223372036854775807
theorem tblk_cell {w : World} {b o : Nat} {cs : Array Value} {t : TypeId} {v : Value} (h : w.heap[b]? = some (.cells cs t)) (hv : cs[o]? = some v) : w.cell? ⟨b, o, none⟩ = some v := by
  simp [World.cell?, h, hv]
theorem tblk_new (w : World) (o : Obj) : (w.alloc o).heap[w.heap.size]? = some o := by
  show (w.heap.push o)[w.heap.size]? = _; simp
theorem blk_set {w : World} {g o : Nat} {cur : Array Value} {t : TypeId} {v : Value} (h : w.heap[g]? = some (.cells cur t)) : (w.setCell ⟨g, o, none⟩ v).heap[g]? = some (.cells (cur.setIfInBounds o v) t) := by
  simp [World.setCell, Array.getElem?_modify, h]
theorem blk_oth {w : World} {g o k : Nat} {v : Value} (h : k ≠ g) : (w.setCell ⟨g, o, none⟩ v).heap[k]? = w.heap[k]? := Below.heap_setCell w ⟨g, o, none⟩ v k h
/-- The row of the queue: pointers to blocks. -/
def RQ (w : World) (v : Value) (L : List Mo) : Prop := (v = .slice none 0 0 ∧ L = []) ∨ ∃ g c cur, v = .slice (some ⟨g, 0, none⟩) L.length c ∧ w.heap[g]? = some (.cells cur 59) ∧ cur.size = c ∧ L.length ≤ c ∧ c ≤ maxLen ∧ ∀ j, j < L.length → cur[j]? = some (.pointer (some ⟨(atM L j).b, 0, none⟩))
def moC (x : Mo) (j : Nat) : Array Value := #[.int .i64 x.i, .int .i64 x.t, .int .i64 (j : Int)]
/-- The moments where they lie, each with its place; the row. -/
structure CQ (w : World) (cb mk : Nat) (now : Int) (v : Value) (E : List Mo) : Prop where
  bk : w.heap[cb]? = some (.cells #[.int .i64 now, .map (some mk), v] 55)
  rq : RQ w v E
  mo : ∀ j, j < E.length → w.heap[(atM E j).b]? = some (.cells (moC (atM E j) j) 58)
  nd : ∀ i j, i < E.length → j < E.length → (atM E i).b = (atM E j).b → i = j
theorem CQ.lt {w : World} {cb mk : Nat} {now : Int} {v : Value} {E : List Mo} (h : CQ w cb mk now v E) : cb < w.heap.size := (Array.getElem?_eq_some_iff.1 h.bk).1
theorem CQ.c0 {w : World} {cb mk : Nat} {now : Int} {v : Value} {E : List Mo} (h : CQ w cb mk now v E) : w.cell? ⟨cb, 0, none⟩ = some (.int .i64 now) := tblk_cell h.bk rfl
theorem CQ.c1 {w : World} {cb mk : Nat} {now : Int} {v : Value} {E : List Mo} (h : CQ w cb mk now v E) : w.cell? ⟨cb, 1, none⟩ = some (.map (some mk)) := tblk_cell h.bk rfl
theorem CQ.c2 {w : World} {cb mk : Nat} {now : Int} {v : Value} {E : List Mo} (h : CQ w cb mk now v E) : w.cell? ⟨cb, 2, none⟩ = some v := tblk_cell h.bk rfl
theorem CQ.z {w : World} {cb mk : Nat} {now : Int} {v : Value} {E : List Mo} (h : CQ w cb mk now v E) (o : Nat) : w.frozen? ⟨cb, o, none⟩ = false := by simp [World.frozen?, h.bk]
/-- Where the row lies. -/
theorem CQ.row {w : World} {cb mk : Nat} {now : Int} {v : Value} {E : List Mo} (h : CQ w cb mk now v E) (hp : 0 < E.length) : ∃ g c cur, v = .slice (some ⟨g, 0, none⟩) E.length c ∧ w.heap[g]? = some (.cells cur 59) ∧ cur.size = c ∧ E.length ≤ c ∧ c ≤ maxLen ∧ (∀ j, j < E.length → cur[j]? = some (.pointer (some ⟨(atM E j).b, 0, none⟩))) ∧ g ≠ cb ∧ ∀ j, j < E.length → (atM E j).b ≠ g := by
  rcases h.rq with ⟨_, e⟩ | ⟨g, c, cur, hv, hg, h1, h2, h3, h4⟩
  · rw [e] at hp; exact absurd hp (Nat.lt_irrefl _)
  · refine ⟨g, c, cur, hv, hg, h1, h2, h3, h4, fun e => ?_, fun j hj e => ?_⟩
    · rw [e, h.bk] at hg
      injection hg with hg
      injection hg with _ hg _
      exact absurd hg (by decide)
    · have := h.mo j hj
      rw [e, hg] at this
      injection this with this
      injection this with _ this _
      exact absurd this (by decide)
theorem CQ.ncb {w : World} {cb mk : Nat} {now : Int} {v : Value} {E : List Mo} (h : CQ w cb mk now v E) (j : Nat) (hj : j < E.length) : (atM E j).b ≠ cb := fun e => by
  have := h.mo j hj
  rw [e, h.bk] at this
  injection this with this
  injection this with _ this _
  exact absurd this (by decide)
/-- Only cells of the clock's own: what may turn. -/
structure CX (S : Nat → Prop) (w w' : World) : Prop where
  os : w'.os = w.os
  tape : w'.tape = w.tape
  output : w'.output = w.output
  size : w.heap.size ≤ w'.heap.size
  block : ∀ k, k < w.heap.size → ¬ S k → w'.heap[k]? = w.heap[k]?
theorem CX.refl (S : Nat → Prop) (w : World) : CX S w w := ⟨rfl, rfl, rfl, Nat.le_refl _, fun _ _ _ => rfl⟩
theorem CX.trans {S : Nat → Prop} {u v w : World} (h : CX S u v) (k : CX S v w) : CX S u w := ⟨k.os.trans h.os, k.tape.trans h.tape, k.output.trans h.output, Nat.le_trans h.size k.size, fun i hi a => (k.block i (Nat.lt_of_lt_of_le hi h.size) a).trans (h.block i hi a)⟩
theorem CX.set {S : Nat → Prop} {u w : World} (h : CX S u w) {g o : Nat} (hg : S g) (v : Value) : CX S u (w.setCell ⟨g, o, none⟩ v) :=
  ⟨h.os, h.tape, h.output, by simp only [World.setCell, Array.size_modify]; exact h.size, fun k hk hn => (blk_oth (fun e => hn (by rw [e]; exact hg))).trans (h.block k hk hn)⟩
theorem CX.drew {S : Nat → Prop} {u w : World} (h : CX S u w) : CX S u w.drew := ⟨h.os, h.tape, h.output, h.size, h.block⟩
theorem CX.below {S : Nat → Prop} {u w : World} {B : Nat} (h : CX S u w) (hS : ∀ k, S k → B ≤ k) (hB : B ≤ u.heap.size) : Below B u w := ⟨h.os, h.tape, h.output, h.size, fun k hk => h.block k (Nat.lt_of_lt_of_le hk hB) (fun s => absurd (hS k s) (by omega))⟩
theorem CX.bel {S : Nat → Prop} {u w : World} (h : Below u.heap.size u w) : CX S u w := ⟨h.os, h.tape, h.output, h.size, fun k hk _ => h.block k hk⟩
theorem CX.mono {S T : Nat → Prop} {u w : World} (h : CX S u w) (k : ∀ i, S i → T i) : CX T u w := ⟨h.os, h.tape, h.output, h.size, fun i hi hn => h.block i hi (fun s => hn (k i s))⟩
/-- The row's block and those of the moments. -/
def OwnQ (v : Value) (E : List Mo) (k : Nat) : Prop := v.ownBlock = some k ∨ ∃ x ∈ E, x.b = k
set_option maxHeartbeats 400000 in
theorem cqlen_any (v : Value) (E : List Mo) (w : World) (h : RQ w v E) : Calls Try.prog 43 #[v] w fun e w' => e = .returned (.int .i64 E.length) ∧ w = w' := by
  obtain ⟨a, c, rfl⟩ : ∃ a c, v = .slice a E.length c := by
    rcases h with ⟨hv, e⟩ | ⟨g, c, cur, hv, _⟩
    · exact ⟨none, 0, by rw [hv, e]; rfl⟩
    · exact ⟨_, c, hv⟩
  clear h
  generalize E.length = n
  go_enter Try.func43, Try.ntmps43
  go_wp2
  go_ret
  exact ⟨rfl, rfl⟩
set_option maxRecDepth 100000 in
set_option maxHeartbeats 1000000 in
theorem cqless_any (cb mk : Nat) (now : Int) (v : Value) (E : List Mo) (i j : Nat) (hi : i < E.length) (hj : j < E.length) (w : World) (h : CQ w cb mk now v E) : Calls Try.prog 44 #[v, .int .i64 i, .int .i64 j] w fun e w' => e = .returned (.bool (ltM (atM E i) (atM E j))) ∧ ∃ n, w' = w.drewN n := by
  obtain ⟨g, c, cur, rfl, hg, h1, h2, h3, h4, n1, n2⟩ := h.row (by omega)
  have p1 := tblk_cell hg (h4 i hi)
  have p2 := tblk_cell hg (h4 j hj)
  have a0 : w.cell? ⟨(atM E i).b, 0, none⟩ = some (.int .i64 (atM E i).i) := tblk_cell (h.mo i hi) rfl
  have a1 : w.cell? ⟨(atM E i).b, 1, none⟩ = some (.int .i64 (atM E i).t) := tblk_cell (h.mo i hi) rfl
  have b0 : w.cell? ⟨(atM E j).b, 0, none⟩ = some (.int .i64 (atM E j).i) := tblk_cell (h.mo j hj) rfl
  have b1 : w.cell? ⟨(atM E j).b, 1, none⟩ = some (.int .i64 (atM E j).t) := tblk_cell (h.mo j hj) rfl
  unfold ltM
  generalize E.length = n at *
  generalize (atM E i).b = bi at *
  generalize (atM E j).b = bj at *
  generalize (atM E i).i = xi at *
  generalize (atM E j).i = xj at *
  generalize (atM E i).t = ti at *
  generalize (atM E j).t = tj at *
  have m1 : (0 : Int) ≤ i := by omega
  have m2 : (i : Int) < n := by omega
  have m3 : (0 : Int) ≤ j := by omega
  have m4 : (j : Int) < n := by omega
  by_cases ht : ti = tj
  · have d0 : (ti != tj) = false := by simp [ht]
    rw [if_pos ht]
    clear h h1 h2 h3 h4 hg n1 n2 hi hj ht
    go_enter Try.func44, Try.ntmps44
    go_wp2_with fail
    go_quiet (fail)
    go_wp2_with fail
    go_quiet (fail)
    go_wp2
    go_ret
    exact ⟨rfl, _, World.drewN_drewN _ _ _⟩
  · have d0 : (ti != tj) = true := by simp [ht]
    rw [if_neg ht]
    clear h h1 h2 h3 h4 hg n1 n2 hi hj ht
    go_enter Try.func44, Try.ntmps44
    go_wp2_with fail
    go_quiet (fail)
    go_wp2_with fail
    go_quiet (fail)
    go_wp2
    go_ret
    exact ⟨rfl, _, World.drewN_drewN _ _ _⟩
end Go.Proofs.Ytofnnphpogpcdaa
