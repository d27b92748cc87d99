/- Whatever the record and the two numbers, EntryWords answers true: of a right record's line, one with a blank more, a sign ahead, a byte less, an end more, another blank, or a word more is none. -/
import Derived.Test.YtpegjifimaijeaaDoorEa2
import Derived.Deep.RegionHeld3
import Derived.Deep.AppendLies
import Derived.Test.YtpegjifimaijeaaDoorEa3
import Derived.Deep.DeepCutAuto
import Derived.Test.YtpegjifimaijeaaDoorRows
import Derived.Test.YtpegjifimaijeaaDoorCards
import Derived.Test.YtpegjifimaijeaaDoorTie
import Derived.WalkKit
import Derived.ProofKit
import Derived.OpenShut
import Derived.ShutString
import Derived.ChangeOld
import Derived.Below
import Derived.LaidMore
import Derived.Lay
import Derived.Stop.Joined
import Derived.SevenTiedAt
import Derived.Shelf.Vars
import Derived.Deep.DeepHandedRow
import Derived.Deep.DeepWitnessRowRef
/- A row of numbers that grows, in memory of its own. -/
namespace Go.Proofs.YtpegjifimaijeaaDoor
open Go.RowKit
set_option linter.unusedVariables false

def iv (n : Nat) : Value := .int .i64 (n : Int)
theorem ivs_one (l : List Nat) : ∀ v ∈ l.map iv, v.oneCell' = true := by
  intro v hv
  obtain ⟨x, _, rfl⟩ := List.mem_map.1 hv
  rfl
theorem infoI3 : (Tryd.prog.info? 3).map (fun i => (i.zero, i.size, i.bytes)) = some (some (.int .i64 0), 1, 8) := by kernel_rfl
def OwnI (B : Nat) (w : World) (v : Value) (l : List Nat) : Prop := w.ownsRow B 3 1 v l.length (l.map iv)
theorem OwnI.keep {B : Nat} {w w' : World} {v : Value} {X : List Nat} (h : OwnI B w v X) (b : Below w.heap.size w w') : OwnI B w' v X := by
  obtain ⟨h1, h2⟩ := h
  refine ⟨h1, ?_⟩
  rcases h2 with h2 | ⟨g, cap, cur, hv, hg, hh, r⟩
  · exact .inl h2
  · exact .inr ⟨g, cap, cur, hv, hg, (b.block g (Array.getElem?_eq_some_iff.1 hh).1).trans hh, r⟩
theorem OwnI.empty (B : Nat) (w : World) (hB : B ≤ w.heap.size) : OwnI B (w.alloc (.cells #[] 3)) (.slice (some ⟨w.heap.size, 0, none⟩) 0 0) [] :=
  ⟨rfl, .inr ⟨w.heap.size, 0, #[], rfl, hB, new_at _ _, Nat.le_refl _, by decide, rfl, rfl⟩⟩
theorem OwnI.at {B : Nat} {w : World} {v : Value} {l : List Nat} (h : OwnI B w v l) (hp : 0 < l.length) : ∃ g c, v = .slice (some ⟨g, 0, none⟩) l.length c ∧ ∀ (j : Nat) (hj : j < l.length), w.cell? ⟨g, j, none⟩ = some (iv l[j]) := by
  have h0 := h
  obtain ⟨h1, ⟨h2, h3⟩ | ⟨g, c, cur, hv, hB, hg, hl, hm, hs, ht⟩⟩ := h
  · omega
  · refine ⟨g, c, hv, fun j hj => ?_⟩
    have k := (hv ▸ h0 : w.ownsRow B 3 1 (.slice (some ⟨g, 0, none⟩) l.length c) l.length (l.map iv)).cellAt j (by omega)
    rw [k, List.getElem?_map, List.getElem?_eq_getElem hj]; rfl
theorem ownI_two {B : Nat} {w : World} {v : Value} {l : List Nat} (h : OwnI B w v l) (hB : B ≤ w.heap.size) (p q : Nat) (hmax : l.length + 2 ≤ 100000) :
    ∃ v' w', (Builtin.append_ #[43, 43] 43 #[v, .slice (some ⟨w.heap.size, 0, none⟩) 2 2]).run Tryd.prog (w.alloc (.cells #[.int .i64 (p : Int), .int .i64 (q : Int)] 3)) = .ok v' w' ∧ OwnI B w' v' (l ++ [p, q]) ∧ Below B w w' := by
  obtain ⟨i, hi, hz0, hz1, hz2⟩ := info_parts infoI3
  have BA : Below w.heap.size w (w.alloc (.cells #[.int .i64 (p : Int), .int .i64 (q : Int)] 3)) := (Below.refl _ _).alloc (Nat.le_refl _) _
  have h' := h.keep BA
  have hB' := Nat.le_trans hB BA.size
  have hnew := new_at w (.cells #[.int .i64 (p : Int), .int .i64 (q : Int)] 3)
  obtain ⟨v', w', hr, q1, q2, q3, q4⟩ := run_append_own_at (P := Tryd.prog) _ B 43 43 3 i (.int .i64 0) 1 8 Tryd.underlying43 hi hz0 hz1 hz2 rfl (by decide) v l.length (l.map iv) h' ⟨w.heap.size, 0, none⟩ 2 2 ([p, q].map iv) (by simp)
      (fun j u hj => by
        rw [addr_add, Nat.zero_add]
        refine ring_cell hnew ?_
        simpa [iv] using hj) (ivs_one _) (by unfold maxLen; omega) (by omega) hB'
  refine ⟨v', w', hr, ?_, (BA.mono hB).trans ((Below.refl _ _).grown q2 hB' (fun q hq => (h'.lt q hq).1))⟩
  unfold OwnI
  rw [List.length_append, List.map_append]; exact q1
end Go.Proofs.YtpegjifimaijeaaDoor

/- A byte put into a row of one's own; a row of given bytes; a number put behind a row. -/
namespace Go.Proofs.YtpegjifimaijeaaDoor
open Go.RowKit
set_option linter.unusedVariables false

theorem own_set {B : Nat} {w : World} {v : Value} {X : List UInt8} (h : Own B w v X) (i : Nat) (hi : i < X.length) (y : UInt8) : ∃ g c, v = .slice (some ⟨g, 0, none⟩) X.length c ∧ B ≤ g ∧ g < w.heap.size ∧ w.cell? ⟨g, i, none⟩ = some (bv X[i]) ∧ w.frozen? ⟨g, i, none⟩ = false ∧ X.length ≤ c ∧ c ≤ maxLen ∧ Src (w.setCell ⟨g, i, none⟩ (bv y)) g v (X.set i y) := by
  have h0 := h
  obtain ⟨h1, ⟨h2, h3⟩ | ⟨g, c, cur, hv, hB, hg, hl, hm, hs, ht⟩⟩ := h
  · omega
  · have hcell : ∀ (j : Nat) (hj : j < X.length), w.cell? ⟨g, j, none⟩ = some (bv X[j]) := fun j hj => by
      have k := (hv ▸ h0 : w.ownsRow B 5 1 (.slice (some ⟨g, 0, none⟩) X.length c) X.length (rowB X)).cellAt j (by omega)
      rw [k]
      unfold rowB
      rw [List.getElem?_map, List.getElem?_eq_getElem hj]; rfl
    have hcur : ∀ (j : Nat) (hj : j < X.length), cur[j]? = some (bv X[j]) := fun j hj => by
      have := hcell j hj
      simpa [World.cell?, hg] using this
    refine ⟨g, c, hv, hB, heap_lt hg, hcell i hi, ring_z hg, hl, hm, ⟨some ⟨g, 0, none⟩, c, by rw [List.length_set]; exact hv, by rw [List.length_set]; exact hl, hm, fun _ => ⟨0, rfl, fun j hj => ?_⟩⟩⟩
    rw [List.length_set] at hj
    rw [Nat.zero_add]
    refine ring_cell (ring_set hg) ?_
    rw [Array.getElem?_setIfInBounds]
    have hsz : i < cur.size := (Array.getElem?_eq_some_iff.1 (hcur i hi)).1
    by_cases hij : i = j
    · subst hij
      rw [if_pos rfl, if_pos hsz]
      simp
    · rw [if_neg hij, hcur j hj, List.getElem_set_ne hij]
theorem own_lit (B : Nat) (w : World) (hB : B ≤ w.heap.size) (x : UInt8) : Own B (w.alloc (.cells #[.int .u8 (x.toNat : Int)] 5)) (.slice (some ⟨w.heap.size, 0, none⟩) 1 1) [x] :=
  ⟨rfl, .inr ⟨w.heap.size, 1, #[.int .u8 (x.toNat : Int)], rfl, hB, new_at _ _, Nat.le_refl _, by decide, rfl, rfl⟩⟩
theorem src_lit (w : World) (x : UInt8) : Src (w.alloc (.cells #[.int .u8 (x.toNat : Int)] 5)) w.heap.size (.slice (some ⟨w.heap.size, 0, none⟩) 1 1) [x] := by
  obtain ⟨k, h, hk⟩ := (own_lit w.heap.size w (Nat.le_refl _) x).src
  have := hk (Nat.zero_lt_one)
  have hs : (w.alloc (.cells #[.int .u8 (x.toNat : Int)] 5)).heap.size = w.heap.size + 1 := by simp
  obtain rfl : k = w.heap.size := by omega
  exact h
theorem ownI_one {B : Nat} {w : World} {v : Value} {l : List Nat} (h : OwnI B w v l) (hB : B ≤ w.heap.size) (p : Nat) (hmax : l.length + 1 ≤ 100000) :
    ∃ v' w', (Builtin.append_ #[43, 43] 43 #[v, .slice (some ⟨w.heap.size, 0, none⟩) 1 1]).run Tryd.prog (w.alloc (.cells #[.int .i64 (p : Int)] 3)) = .ok v' w' ∧ OwnI B w' v' (l ++ [p]) ∧ Below B w w' := by
  obtain ⟨i, hi, hz0, hz1, hz2⟩ := info_parts infoI3
  have BA : Below w.heap.size w (w.alloc (.cells #[.int .i64 (p : Int)] 3)) := (Below.refl _ _).alloc (Nat.le_refl _) _
  have h' := h.keep BA
  have hB' := Nat.le_trans hB BA.size
  have hnew := new_at w (.cells #[.int .i64 (p : Int)] 3)
  obtain ⟨v', w', hr, q1, q2, q3, q4⟩ := run_append_own_at (P := Tryd.prog) _ B 43 43 3 i (.int .i64 0) 1 8 Tryd.underlying43 hi hz0 hz1 hz2 rfl (by decide) v l.length (l.map iv) h' ⟨w.heap.size, 0, none⟩ 1 1 ([p].map iv) (by simp)
      (fun j u hj => by
        rw [addr_add, Nat.zero_add]
        refine ring_cell hnew ?_
        simpa [iv] using hj) (ivs_one _) (by unfold maxLen; omega) (by omega) hB'
  refine ⟨v', w', hr, ?_, (BA.mono hB).trans ((Below.refl _ _).grown q2 hB' (fun q hq => (h'.lt q hq).1))⟩
  unfold OwnI
  rw [List.length_append, List.map_append]; exact q1
end Go.Proofs.YtpegjifimaijeaaDoor

/- An append in a region that draws its order. -/
namespace Go.Proofs.YtpegjifimaijeaaDoor
open Go.RowKit
set_option linter.unusedVariables false

theorem step_own {ops : Array Oper} {o : Oper} {a : Act} {K : Act → World → Prop} {Q : Exit → Act → World → Prop} {E : Prop} {w : World} (hgd : o.guard = none) (s x : Operand)
    (ho : o.op = .call { callee := .builtin .append, args := #[s, x], argTypes := #[25, 25] }) (hty : o.type = 25)
    (B : Nat) (v : Value) (X : List UInt8) (hs : a.eval s = v) (hown : Own B w v X) (k : Nat) (ad : Option Addr) (n c : Nat) (Y : List UInt8) (hx : a.eval x = .slice ad n c) (hsrc : Src w k (.slice ad n c) Y) (hnil : ad = none → c = 0) (hmax : X.length + Y.length ≤ 140737488355328) (hB : B ≤ w.heap.size)
    (h : ∀ v' w', Own B w' v' (X ++ Y) → Below B w w' → K (a.put o.dst v') w') :
    if Region.wanted o (yielded ops a.tmps) = true then Oper.wp Tryd.prog o a w K Q else E := by
  have hw : Region.wanted o (yielded ops a.tmps) = true := by simp [Region.wanted, hgd]
  rw [if_pos hw]
  obtain ⟨v', w', hr, O, Bl⟩ := own_append hown hsrc hnil hmax hB
  unfold Oper.wp execOp
  simp only [ho, hty, resolve, invoke, builtin, Sem.run_bind, Sem.run_pure, Result.andThen_ok, List.map_toArray, List.map_cons, List.map_nil, hs, hx, hr]
  exact h v' w' O Bl
theorem Own.drewN {B : Nat} {w : World} {v : Value} {X : List UInt8} (h : Own B w v X) (n : Nat) : Own B (w.drewN n) v X := by
  obtain ⟨h1, h2⟩ := h
  refine ⟨h1, ?_⟩
  rcases h2 with h2 | ⟨g, cap, cur, hv, hg, hh, r⟩
  · exact .inl h2
  · exact .inr ⟨g, cap, cur, hv, hg, by simpa [World.drewN] using hh, r⟩
end Go.Proofs.YtpegjifimaijeaaDoor

/- Bytes appended in a region that draws its order: which block may turn. -/
namespace Go.Proofs.YtpegjifimaijeaaDoor
open Go.RowKit
set_option linter.unusedVariables false

/-- Bytes appended; which block may turn. -/
theorem own_append2 {B : Nat} {w : World} {k : Nat} {v : Value} {X Y : List UInt8} {a : Option Addr} {n c : Nat} (h : Own B w v X) (hs : Src w k (.slice a n c) Y) (hnil : a = none → c = 0) (hmax : X.length + Y.length ≤ 140737488355328) (hB : B ≤ w.heap.size) :
    ∃ v' w', (Builtin.append_ #[25, 25] 25 #[v, .slice a n c]).run Tryd.prog w = .ok v' w' ∧ Own B w' v' (X ++ Y) ∧ Below B w w' ∧ (∀ k, k < w.heap.size → v.ownBlock ≠ some k → w'.heap[k]? = w.heap[k]?) := by
  obtain ⟨i, hi, hz0, hz1, hz2⟩ := info_parts infoB3
  obtain ⟨a', c', e, h1, h2, h3⟩ := hs
  obtain ⟨e1, e2, e3⟩ := slice_inj e
  subst e1 e2 e3
  have hmx : X.length + Y.length ≤ maxLen := by unfold maxLen; omega
  cases a with
  | none =>
    have hc := hnil rfl
    have hy : Y = [] := by
      rcases Nat.eq_zero_or_pos Y.length with q | q
      · exact List.eq_nil_of_length_eq_zero q
      · obtain ⟨_, q, _⟩ := h3 q; cases q
    subst hy hc
    exact ⟨v, w, run_append_owned_none w B 25 25 5 i 1 Tryd.underlying25 hi v _ _ h, by rw [List.append_nil]; exact h, Below.refl _ _, fun _ _ _ => rfl⟩
  | some ad =>
    obtain ⟨v', w', hr, q1, q2, q3, q4⟩ := run_append_own_at (P := Tryd.prog) w B 25 25 5 i (.int .u8 0) 1 1 Tryd.underlying25 hi hz0 hz1 hz2 rfl (by decide) v X.length (rowB X) h ad Y.length c (rowB Y) (by rw [rowB_length]; omega)
      (fun j u hj => by
        unfold rowB at hj
        rw [List.getElem?_map] at hj
        obtain ⟨x, hx, rfl⟩ := Option.map_eq_some_iff.1 hj
        have hjl := (List.getElem?_eq_some_iff.1 hx).1
        obtain ⟨off, ha, hc⟩ := h3 (by omega)
        have : ad = ⟨k, off, none⟩ := by simpa using ha
        subst this
        rw [addr_add, hc j hjl, (List.getElem?_eq_some_iff.1 hx).2]) (bvs_one _) hmx (by omega) hB
    refine ⟨v', w', hr, ?_, (Below.refl _ _).grown q2 hB (fun q hq => (h.lt q hq).1), fun k hk hn => q2.block k hk (fun e => hn e.symm)⟩
    unfold Own
    rw [List.length_append, rowB_app]; exact q1
theorem step_ownB {ops : Array Oper} {o : Oper} {a : Act} {K : Act → World → Prop} {Q : Exit → Act → World → Prop} {E : Prop} {w : World} (hgd : o.guard = none) (s x : Operand)
    (ho : o.op = .call { callee := .builtin .append, args := #[s, x], argTypes := #[25, 25] }) (hty : o.type = 25)
    (B : Nat) (v : Value) (X : List UInt8) (hs : a.eval s = v) (hown : Own B w v X) (k : Nat) (ad : Option Addr) (n c : Nat) (Y : List UInt8) (hx : a.eval x = .slice ad n c) (hsrc : Src w k (.slice ad n c) Y) (hnil : ad = none → c = 0) (hmax : X.length + Y.length ≤ 140737488355328) (hB : B ≤ w.heap.size)
    (g : Nat) (hg : v.ownBlock = some g) (h : ∀ v' w', Own B w' v' (X ++ Y) → Below B w w' → (∀ k, k < w.heap.size → ¬ k = g → w'.heap[k]? = w.heap[k]?) → K (a.put o.dst v') w') :
    if Region.wanted o (yielded ops a.tmps) = true then Oper.wp Tryd.prog o a w K Q else E := by
  have hw : Region.wanted o (yielded ops a.tmps) = true := by simp [Region.wanted, hgd]
  rw [if_pos hw]
  obtain ⟨v', w', hr, O, Bl, Kl⟩ := own_append2 hown hsrc hnil hmax hB
  unfold Oper.wp execOp
  simp only [ho, hty, resolve, invoke, builtin, Sem.run_bind, Sem.run_pure, Result.andThen_ok, List.map_toArray, List.map_cons, List.map_nil, hs, hx, hr]
  exact h v' w' O Bl (fun k hk hn => Kl k hk (by rw [hg]; intro e; exact hn (Option.some.inj e).symm))
theorem own_b0 {W : World} {B g : Nat} (hB : B ≤ g) (h : W.heap[g]? = some (.cells #[] 5)) : Own B W (.slice (some ⟨g, 0, none⟩) 0 0) [] :=
  ⟨rfl, .inr ⟨g, 0, #[], rfl, hB, h, Nat.le_refl _, by decide, rfl, rfl⟩⟩
theorem bblk2 (w : World) (o o' : Obj) : ((w.alloc o).alloc o').heap[w.heap.size + 1]? = some o' := by
  have k := tblk_new (w.alloc o) o'
  rw [show (w.alloc o).heap.size = w.heap.size + 1 from by simp] at k
  exact k
theorem src_blk {W : World} {g n : Nat} {l : List UInt8} {row : Array Value} {fz : Nat × Nat} (h : W.heap[g]? = some (.cells row 5 fz)) (hl : l.length = n) (hm : n ≤ maxLen) (hr : (rowB l).toArray = row) : Src W g (.slice (some ⟨g, 0, none⟩) n n) l := by
  subst hr hl
  refine ⟨_, _, rfl, Nat.le_refl _, hm, fun _ => ⟨0, rfl, fun j hj => ?_⟩⟩
  have e : (rowB l).toArray[0 + j]? = some (bv l[j]) := by
    rw [Nat.zero_add, List.getElem?_toArray]
    unfold rowB
    rw [List.getElem?_map, List.getElem?_eq_getElem hj]; rfl
  unfold World.cell?
  rw [h]
  exact e
theorem src_one {W : World} {g : Nat} {c : UInt8} {v : Value} (h : W.heap[g]? = some (.cells #[v] 5)) (hv : bv c = v) : Src W g (.slice (some ⟨g, 0, none⟩) 1 1) [c] := by
  subst hv
  exact src_blk h rfl (by decide) rfl
end Go.Proofs.YtpegjifimaijeaaDoor

/- EntryWords, walked. -/
namespace Go.Proofs.YtpegjifimaijeaaDoor
open Go.RowKit
set_option linter.unusedVariables false

theorem hidE {p : Prop} (h : p) : Hid p := h
/-- What is no line is refused. -/
theorem refE_any {W : World} {k : Nat} {a : Option Addr} {n c : Nat} {l : List UInt8} (hS : Src W k (.slice a n c) l) (hk : 0 < l.length → k < W.heap.size) (hn : l.length ≤ 10000) (hc : codR ⟨l.toArray⟩ = 20) (h : AlE W) :
    Calls Tryd.prog 10 #[.slice a n c] W fun r w' => r = .returned (.tuple #[.agg #[.int .i64 0, .int .i64 0, .int .i64 0, .int .i64 0, .string ⟨#[]⟩, .string ⟨#[]⟩, .int .i64 0, .int .i64 0, .int .i64 0], .int .i64 20]) ∧ Below W.heap.size W w' := by
  have hv : valR ⟨l.toArray⟩ = zeroE := by
    unfold codR at hc
    unfold valR
    by_cases q : okR ⟨l.toArray⟩ = true
    · rw [if_pos q] at hc; cases hc
    · rw [if_neg q]
  refine (enread_any l k a n c W hS hk (by omega) h.m h.l h.p).mono fun r w' hq => ?_
  rw [hv, hc] at hq
  exact hq
theorem pre_step {B : Nat} {w : World} {k n c : Nat} {ad : Option Addr} {X : List UInt8} (z : UInt8) (zi : Int) (hz : (z.toNat : Int) = zi) (hS : Src w k (.slice ad n c) X) (hk : k < w.heap.size) (hnil : ad = none → c = 0) (hX : X.length ≤ 10000) (hB : B ≤ w.heap.size) :
    ∃ v' w', (Builtin.append_ #[25, 25] 25 #[.slice (some ⟨w.heap.size, 0, none⟩) 1 1, .slice ad n c]).run Tryd.prog (w.alloc (.cells #[.int .u8 zi] 5)) = .ok v' w' ∧ Own B w' v' ([z] ++ X) ∧ Below B w w' := by
  subst hz
  have BA : Below w.heap.size w (w.alloc (.cells #[.int .u8 (z.toNat : Int)] 5)) := (Below.refl _ _).alloc (Nat.le_refl _) _
  obtain ⟨v, w', r, O, b⟩ := own_append (own_lit B w hB z) (hS.keep (fun _ => hk) BA) hnil (by simp only [List.length_cons, List.length_nil]; omega) (Nat.le_trans hB BA.size)
  exact ⟨v, w', r, O, (BA.mono hB).trans b⟩
theorem post_step {B : Nat} {w : World} {v : Value} {X : List UInt8} (z : UInt8) (zi : Int) (hz : (z.toNat : Int) = zi) (hO : Own B w v X) (hX : X.length ≤ 10000) (hB : B ≤ w.heap.size) :
    ∃ v' w', (Builtin.append_ #[25, 25] 25 #[v, .slice (some ⟨w.heap.size, 0, none⟩) 1 1]).run Tryd.prog (w.alloc (.cells #[.int .u8 zi] 5)) = .ok v' w' ∧ Own B w' v' (X ++ [z]) ∧ Below B w w' := by
  subst hz
  have BA : Below w.heap.size w (w.alloc (.cells #[.int .u8 (z.toNat : Int)] 5)) := (Below.refl _ _).alloc (Nat.le_refl _) _
  obtain ⟨v, w', r, O, b⟩ := own_append (hO.keep BA) (src_lit w z) (fun q => by cases q) (by simp only [List.length_cons, List.length_nil]; omega) (Nat.le_trans hB BA.size)
  exact ⟨v, w', r, O, (BA.mono hB).trans b⟩
/-- The last step: what is read is refused. -/
theorem own_refd {B : Nat} {w W : World} {v : Value} {l : List UInt8} (hO : Own B W v l) (hn : l.length ≤ 10000) (hc : codR ⟨l.toArray⟩ = 20) (h : AlE w) (C : Below w.heap.size w W) :
    Calls Tryd.prog 10 #[v] W fun r w' => r = .returned (.tuple #[.agg #[.int .i64 0, .int .i64 0, .int .i64 0, .int .i64 0, .string ⟨#[]⟩, .string ⟨#[]⟩, .int .i64 0, .int .i64 0, .int .i64 0], .int .i64 20]) ∧ Below w.heap.size w w' := by
  obtain ⟨k, S, hk⟩ := hO.src
  obtain ⟨a, c, rfl, _⟩ := hO.form
  exact (refE_any S (fun q => (hk q).2) hn hc (h.below C)).mono fun r w' hq => ⟨hq.1, C.trans (hq.2.mono C.size)⟩
set_option maxRecDepth 100000 in
set_option maxHeartbeats 8000000 in
theorem words_walk (e : EntP) (how pl : Int) (w : World) (hm : e.m.size ≤ maxLen) (ht : e.t.size ≤ maxLen) (h : AlE w) :
    Calls Tryd.prog 5 #[.agg (entV e), .int .i64 how, .int .i64 pl] w fun r w' => r = .returned (.bool true) ∧ Below w.heap.size w w' := by
  obtain ⟨t, ht7, hbt0⟩ := and_mask pl 7 (by decide)
  have hbt : bits BinOp.and IntKind.i64 pl 7 = (t : Int) := hbt0
  obtain ⟨o, ho7, hbo0⟩ := and_mask how 7 (by decide)
  have hbo : bits BinOp.and IntKind.i64 how 7 = (o : Int) := hbo0
  clear hbt0 hbo0
  have HAL : Hid (AlE w) := h
  have B0 : Below w.heap.size w (w.alloc (.cells (entV e) 23)) := (Below.refl _ _).alloc (Nat.le_refl _) _
  have N0 := tblk_new w (.cells (entV e) 23)
  have HA : Hid (Calls Tryd.prog 6 #[] (w.alloc (.cells (entV e) 23)) fun r w' => r = .returned (.bool true) ∧ Below w.heap.size w w' ∧ w'.heap[w.heap.size]? = some (.cells (entV e) 23)) := (alive13_any _ (h.below B0)).mono fun r w' hq => ⟨hq.1, B0.trans (hq.2.mono B0.size), tblk_below N0 hq.2⟩
  have HW : Hid (∀ W, Below w.heap.size w W → Calls Tryd.prog 7 #[.agg (entV e)] W (WrR e W)) := fun W hW => enwrite_any e W hm ht (h.below hW).l (h.below hW).p
  clear hm ht h B0 N0
  simp only [entV] at HA HW
  go_enter Tryd.func5, Tryd.ntmps5
  go_wp2_with fail
  refine HA.out.mono ?_
  rintro r w1 ⟨rfl, B1, N1⟩
  clear HA
  obtain ⟨n0, n1, n2, n3, n4, n5, n6, n7, n8⟩ := cells9 N1
  clear N1
  go_wp2_with fail
  refine (HW.out _ B1).mono ?_
  rintro r w2 hq
  clear HW n0 n1 n2 n3 n4 n5 n6 n7 n8
  unfold WrR at hq
  by_cases hr : rightE e = true
  · rw [if_pos hr] at hq
    obtain ⟨la, lc, lk, rfl, SL, hk1, hk2, BW⟩ := hq
    obtain ⟨X, hX⟩ : ∃ X, X = lineL e := ⟨_, rfl⟩
    obtain ⟨x, hx⟩ : ∃ x, x = X.length := ⟨_, rfl⟩
    have hx5 : x ≤ 5000 := by rw [hx, hX]; exact line_le hr
    have hx0 : 0 < x := by obtain ⟨l, q⟩ := line_end e; rw [hx, hX, q, List.length_append]; simp
    rw [← hX, ← hx] at SL ⊢
    have hcl := SL.len
    have hx1 := hcl.2.1
    have hx2 := hcl.2.2
    unfold maxLen at hx2
    have HSX : Hid (Src w2 lk (.slice la x lc) X) := SL
    obtain ⟨a', c', e', q1, q2, hcells⟩ := SL
    obtain ⟨e1, e2, e3⟩ := slice_inj e'
    subst e1 e3
    clear q1 q2 e2
    obtain ⟨off, rfl, hc⟩ := hcells (by omega)
    have HX : Hid (X.length = x) := hx.symm
    have HXE : Hid (X = lineL e) := hX
    have HR : Hid (rightE e = true) := hr
    have HC : Hid (∀ (j : Nat) (hj : j < X.length), w2.cell? ⟨lk, off + j, none⟩ = some (bv X[j])) := hc
    have HKX : Hid (lk < w2.heap.size) := hk2
    have HC2 : Hid (Below w.heap.size w w2) := B1.trans (BW.mono B1.size)
    have HT0 : Hid (OwnI w2.heap.size (w2.alloc (.cells #[] 3)) (.slice (some ⟨w2.heap.size, 0, none⟩) 0 0) (blanksTo X 0)) := OwnI.empty _ _ (Nat.le_refl _)
    clear hcl hc hk1 hk2 B1 BW e' hX hx hcells hr
    go_wp2_with fail
    go_loopw [9, 28] (fun vb vi wr => ∃ i : Nat, i ≤ x ∧ vi = .int .i64 i ∧ Hid (OwnI w2.heap.size wr vb (blanksTo X i)) ∧ Hid (Below w2.heap.size w2 wr)) (fun _ vi _ => x - (intOf vi).toNat)
    case atStart => exact ⟨0, Nat.zero_le _, rfl, HT0, (Below.refl _ _).alloc (Nat.le_refl _) _⟩
    case round =>
      obtain ⟨i, hi, rfl, hO, hB⟩ := hrel
      clear HT0
      by_cases hlt : i < x
      · have hiX : i < X.length := by rw [HX.out]; exact hlt
        have hcell := (hB.out.cell (p := ⟨lk, off + i, none⟩) HKX.out).trans (HC.out i hiX)
        have hgd : X.getD i 0 = X[i] := by simp [List.getD_eq_getElem?_getD, List.getElem?_eq_getElem hiX]
        have hsn := blanksTo_succ X i
        rw [hgd] at hsn
        have hbl : (blanksTo X i).length ≤ i := by unfold blanksTo; exact Nat.le_trans (List.length_filter_le _ _) (by rw [List.length_range]; exact Nat.le_refl _)
        have HSN : Hid (blanksTo X (i + 1) = blanksTo X i ++ if (X[i] == 32) = true then [i] else []) := hsn
        have bd := byte_bd X[i]
        unfold bv at hcell
        clear hsn hgd
        by_cases h32 : X[i] = 32
        · rw [Hid, if_pos (by simpa using h32)] at HSN
          have hq : (X[i].toNat : Int) = 32 := by rw [h32]; rfl
          rw [hq] at hcell
          obtain ⟨v5, w5, r5, O5, B5⟩ := ownI_one hO.out hB.out.size i (by omega)
          have HN : Hid (OwnI w2.heap.size w5 v5 (blanksTo X (i + 1))) := by rw [Hid, HSN]; exact O5
          have HB5 : Hid (Below w2.heap.size w2 w5) := hB.out.trans B5
          clear HSN O5 B5 hq h32 bd hbl hiX
          go_wp2_with (at_builtin; refine wpList_append_run2 rfl _ _ 43 43 rfl _ _ _ w5 rfl rfl r5 ?_)
          go_roundw
          case rel => exact ⟨i + 1, by omega, by go_num, HN, HB5⟩
          case measure => simp [intOf]; omega
        · rw [Hid, if_neg (by simpa using h32), List.append_nil] at HSN
          have hq : ((X[i].toNat : Int) == 32) = false := by
            simp
            intro q
            exact h32 (UInt8.toNat_inj.1 (by show X[i].toNat = 32; omega))
          rw [← HSN] at hO
          clear HSN h32 hbl
          generalize (X[i].toNat : Int) = y at *
          go_wp2_with fail
          go_roundw
          case rel => exact ⟨i + 1, by omega, by go_num, hO, hB⟩
          case measure => simp [intOf]; omega
      · obtain rfl : i = x := by omega
        have hb8 : (blanksTo X i).length = 8 := by have q := blanks_len HR.out; rw [← HXE.out, HX.out] at q; exact q
        obtain ⟨g, c, rfl, hcl⟩ := hO.out.at (by omega)
        have hce := hcl t (by omega)
        have hbm := blanksTo_at (List.getElem_mem (show t < (blanksTo X i).length by omega))
        unfold iv at hce
        generalize (blanksTo X i)[t] = k at *
        rw [hb8]
        obtain ⟨hkx, hkb⟩ := hbm
        have HKB : Hid (X.getD k 0 = 32) := hkb
        have BA : Below w2.heap.size w2 (wr.alloc (.cells #[] 5)) := hB.out.alloc hB.out.size _
        obtain ⟨v8, w8, r8, O8, B8⟩ := own_append (Own.empty w2.heap.size wr hB.out.size) (HSX.out.keepB (fun _ => HKX.out) BA) (fun q => by cases q) (by rw [HX.out]; show 0 + _ ≤ _; omega) BA.size
        rw [List.nil_append] at O8
        have HO8 : Hid (Own w2.heap.size w8 v8 X) := O8
        have D8 : Hid (Below w2.heap.size w2 w8) := BA.trans B8
        have HS8 : Hid (Src w8 lk (.slice (some ⟨lk, off, none⟩) i lc) X) := HSX.out.keepB (fun _ => HKX.out) D8.out
        have HK8 : Hid (lk < w8.heap.size) := Nat.lt_of_lt_of_le HKX.out D8.out.size
        have HC8 : Hid (Below w.heap.size w w8) := HC2.out.trans (D8.out.mono HC2.out.size)
        clear O8 B8 BA hkb hcl hO HC hlt hi hB
        obtain ⟨y, hy⟩ : ∃ y, i = y + 1 := ⟨i - 1, by omega⟩
        have hw : IntKind.i64.wrap ((i : Int) - 1) = (y : Int) := by rw [IntKind.wrap_i64]; omega
        have hy1 : (y : Int) ≤ (lc : Int) := by omega
        have hy2 : (0 : Int) ≤ (y : Int) := by omega
        have HY : Hid (i = y + 1) := hy
        clear hy
        have hoo : o = 0 ∨ o = 1 ∨ o = 2 ∨ o = 3 ∨ o = 4 ∨ o = 5 ∨ o = 6 ∨ o = 7 := by omega
        rcases hoo with rfl | rfl | rfl | rfl | rfl | rfl | rfl | rfl
        · have hbo : bits BinOp.and IntKind.i64 how 7 = (0 : Int) := hbo
          have f4 : (k : Int) ≤ (i : Int) := by omega
          have f5 : (k : Int) ≤ (lc : Int) := by omega
          have U0 : Below w8.heap.size w8 w8 := Below.refl _ _
          have HST : Hid (∀ W, Below w8.heap.size w8 W → Src W lk (.slice (some ⟨lk, off, none⟩) k lc) (X.take k)) := fun W B => (HS8.out.keepB (fun _ => HK8.out) B).take (by rw [HX.out]; omega)
          have HSD : Hid (∀ W, Below w8.heap.size w8 W → Src W lk (.slice (if lc = k then some ⟨lk, off, none⟩ else some ⟨lk, off + k, none⟩) (i - k) (lc - k)) (X.drop k)) := fun W hW => by rw [if_neg (by omega)]; exact (HS8.out.keepB (fun _ => HK8.out) hW).cut (by rw [HX.out]; omega) (fun _ => by simp [addr_add])
          have HNI : Hid ((if lc = k then some (⟨lk, off, none⟩ : Addr) else some ⟨lk, off + k, none⟩) = none → lc - k = 0) := fun q => by rw [if_neg (by omega)] at q; cases q
          have HM1 : Hid (([] : List UInt8).length + (X.take k).length ≤ 140737488355328) := by rw [Hid, List.length_take, HX.out]; show 0 + _ ≤ _; omega
          have HM2 : Hid (([] ++ X.take k).length + ([32] : List UInt8).length ≤ 140737488355328) := by rw [Hid, List.nil_append, List.length_take, HX.out]; show _ + 1 ≤ _; omega
          have HM3 : Hid ((([] ++ X.take k) ++ [32]).length + (X.drop k).length ≤ 140737488355328) := by rw [Hid, List.nil_append, List.length_append, List.length_take, List.length_drop, HX.out]; show _ + 1 + _ ≤ _; omega
          have HQ : Hid (∀ (W : World) (v : Value), Below w8.heap.size w8 W → Own w8.heap.size W v ([] ++ X.take k ++ [32] ++ X.drop k) → Calls Tryd.prog 10 #[v] W fun r w' => r = .returned (.tuple #[.agg #[.int .i64 0, .int .i64 0, .int .i64 0, .int .i64 0, .string ⟨#[]⟩, .string ⟨#[]⟩, .int .i64 0, .int .i64 0, .int .i64 0], .int .i64 20]) ∧ Below w.heap.size w w') := fun W v hW O => by
            rw [List.nil_append] at O
            exact own_refd O (by rw [List.length_append, List.length_append, List.length_take, List.length_drop, HX.out]; show _ + 1 + _ ≤ _; omega) (by rw [HXE.out]; exact words0 HR.out k) HAL.out (HC8.out.trans (hW.mono HC8.out.size))
          go_wp2_with (at_builtin; refine wpList_append_run2 rfl _ _ 25 25 rfl _ _ _ w8 rfl rfl r8 ?_; clear r8)
          clear HKB HO8 hw hy1 hy2 hce hb8 hbt hbo
          go_region_held3 (fun _ => True) (go_keep) (first | (have g7 := O7; clear g7; refine step_own rfl _ _ rfl rfl w8.heap.size _ ([] ++ X.take k ++ [32]) rfl O7 lk _ _ _ (X.drop k) rfl (HSD.out _ (by first | exact (((((Below.refl _ _).alloc (Nat.le_refl _) _).drew).trans B6).alloc (Nat.le_trans (by simp) B6.size) _).trans B7 | exact ((((((Below.refl _ _).alloc (Nat.le_refl _) _).alloc (by simp) _).drew).trans B6)).trans B7 | exact ((((((Below.refl _ _).alloc (Nat.le_refl _) _).drew).alloc (by simp) _).trans B6)).trans B7)) HNI.out HM3.out (by have := ((by first | exact (((((Below.refl _ _).alloc (Nat.le_refl _) _).drew).trans B6).alloc (Nat.le_trans (by simp) B6.size) _).trans B7 | exact ((((((Below.refl _ _).alloc (Nat.le_refl _) _).alloc (by simp) _).drew).trans B6)).trans B7 | exact ((((((Below.refl _ _).alloc (Nat.le_refl _) _).drew).alloc (by simp) _).trans B6)).trans B7) : Below w8.heap.size w8 w7).size; exact this) ?_; intro v9 w9 O9 B9) | (have g6 := O6; clear g6; refine step_own rfl _ _ rfl rfl w8.heap.size _ ([] ++ X.take k) rfl (by first | exact O6 | exact Own.keep O6 ((Below.refl _ _).alloc (Nat.le_refl _) _)) _ _ _ _ [32] rfl (by first | exact src_one (tblk_new _ _) rfl | exact src_one ((K6 _ (by simp <;> omega) (by simp <;> omega)).trans (bblk2 _ _ _)) rfl | exact src_one ((K6 _ (by simp <;> omega) (by simp <;> omega)).trans ((Below.heap_alloc _ _ _ (by simp <;> omega)).trans (tblk_new _ _))) rfl) (fun e => by cases e) HM2.out (by have := B6.size; (simp at this ⊢ <;> omega)) ?_; intro v7 w7 O7 B7) | (refine step_ownB rfl _ _ rfl rfl w8.heap.size _ [] rfl (own_b0 (by simp <;> omega) (by first | exact tblk_new _ _ | exact (Below.heap_alloc _ _ _ (by simp <;> omega)).trans (tblk_new _ _) | exact bblk2 _ _ _)) lk _ _ _ (X.take k) rfl (HST.out _ (by repeat (refine Below.drew ?_); first | exact U0.alloc U0.size _ | exact (U0.alloc U0.size _).alloc (by have := U0.size; simp <;> omega) _)) (fun e => by cases e) HM1.out (by simp <;> omega) _ rfl ?_; intro v6 w6 O6 B6 K6))
          all_goals
            have D7 : Below w8.heap.size w8 w7 := (by first | exact (((((Below.refl _ _).alloc (Nat.le_refl _) _).drew).trans B6).alloc (Nat.le_trans (by simp) B6.size) _).trans B7 | exact ((((((Below.refl _ _).alloc (Nat.le_refl _) _).alloc (by simp) _).drew).trans B6)).trans B7 | exact ((((((Below.refl _ _).alloc (Nat.le_refl _) _).drew).alloc (by simp) _).trans B6)).trans B7)
            have D9 := D7.trans B9
            have HD := hidE (HQ.out _ _ D9 O9)
            clear O6 O7 O9 B6 B7 B9 D7 D9 K6
            go_wp2_with fail
            refine HD.out.mono ?_
            rintro r wz ⟨rfl, Bz⟩
            clear HD
            go_wp2
            go_ret
            exact ⟨rfl, Bz.alloc Bz.size _⟩
        · have hbo : bits BinOp.and IntKind.i64 how 7 = (1 : Int) := hbo
          obtain ⟨v9, w9, r9, O9, B9⟩ := pre_step 32 32 rfl HS8.out HK8.out (fun q => by cases q) (by rw [HX.out]; omega) D8.out.size
          have C9 : Below w.heap.size w w9 := HC2.out.trans ((D8.out.trans B9).mono HC2.out.size)
          have HD := hidE (own_refd O9 (by rw [List.length_append, HX.out]; simp only [List.length_cons, List.length_nil]; omega) (by rw [HXE.out]; exact words1 HR.out) HAL.out C9)
          clear O9 B9 C9 HKB HO8 hw hy1 hy2
          go_wp2_with (at_builtin; first | (refine wpList_append_run2 rfl _ _ 25 25 rfl _ _ _ w8 rfl rfl r8 ?_; clear r8) | (refine wpList_append_run2 rfl _ _ 25 25 rfl _ _ _ w9 rfl rfl r9 ?_; clear r9))
          refine HD.out.mono ?_
          rintro r wz ⟨rfl, Bz⟩
          clear HD
          go_wp2
          go_ret
          exact ⟨rfl, Bz.alloc Bz.size _⟩
        · have hbo : bits BinOp.and IntKind.i64 how 7 = (2 : Int) := hbo
          obtain ⟨v9, w9, r9, O9, B9⟩ := pre_step 48 48 rfl HS8.out HK8.out (fun q => by cases q) (by rw [HX.out]; omega) D8.out.size
          have C9 : Below w.heap.size w w9 := HC2.out.trans ((D8.out.trans B9).mono HC2.out.size)
          have HD := hidE (own_refd O9 (by rw [List.length_append, HX.out]; simp only [List.length_cons, List.length_nil]; omega) (by rw [HXE.out]; exact words2 48 (.inl rfl) e) HAL.out C9)
          clear O9 B9 C9 HKB HO8 hw hy1 hy2
          go_wp2_with (at_builtin; first | (refine wpList_append_run2 rfl _ _ 25 25 rfl _ _ _ w8 rfl rfl r8 ?_; clear r8) | (refine wpList_append_run2 rfl _ _ 25 25 rfl _ _ _ w9 rfl rfl r9 ?_; clear r9))
          refine HD.out.mono ?_
          rintro r wz ⟨rfl, Bz⟩
          clear HD
          go_wp2
          go_ret
          exact ⟨rfl, Bz.alloc Bz.size _⟩
        · have hbo : bits BinOp.and IntKind.i64 how 7 = (3 : Int) := hbo
          have S9 := HS8.out.take (m := y) (by rw [HX.out]; have := HY.out; omega)
          have HD := hidE ((refE_any S9 (fun _ => HK8.out) (by rw [List.length_take]; have := HY.out; omega) (by have q := words3 HR.out; rw [← HXE.out, HX.out, show i - 1 = y by have := HY.out; omega] at q; exact q) (HAL.out.below HC8.out)).mono fun r w' hq => (⟨hq.1, HC8.out.trans (hq.2.mono HC8.out.size)⟩ : _ ∧ Below w.heap.size w w'))
          clear S9 HKB HO8
          go_wp2_with (at_builtin; refine wpList_append_run2 rfl _ _ 25 25 rfl _ _ _ w8 rfl rfl r8 ?_; clear r8)
          refine HD.out.mono ?_
          rintro r wz ⟨rfl, Bz⟩
          clear HD
          go_wp2
          go_ret
          exact ⟨rfl, Bz.alloc Bz.size _⟩
        · have hbo : bits BinOp.and IntKind.i64 how 7 = (4 : Int) := hbo
          obtain ⟨v9, w9, r9, O9, B9⟩ := post_step 10 10 rfl HO8.out (by rw [HX.out]; omega) D8.out.size
          have C9 : Below w.heap.size w w9 := HC2.out.trans ((D8.out.trans B9).mono HC2.out.size)
          have HD := hidE (own_refd O9 (by rw [List.length_append, HX.out]; simp only [List.length_cons, List.length_nil]; omega) (by rw [HXE.out]; exact words4 HR.out) HAL.out C9)
          clear O9 B9 C9 HKB HO8 hw hy1 hy2
          go_wp2_with (at_builtin; first | (refine wpList_append_run2 rfl _ _ 25 25 rfl _ _ _ w8 rfl rfl r8 ?_; clear r8) | (refine wpList_append_run2 rfl _ _ 25 25 rfl _ _ _ w9 rfl rfl r9 ?_; clear r9))
          refine HD.out.mono ?_
          rintro r wz ⟨rfl, Bz⟩
          clear HD
          go_wp2
          go_ret
          exact ⟨rfl, Bz.alloc Bz.size _⟩
        · have hbo : bits BinOp.and IntKind.i64 how 7 = (5 : Int) := hbo
          obtain ⟨g8, c8, rfl, hg1, hg2, hcell, hfz, hl8, hm8, S8⟩ := own_set HO8.out k (by rw [HX.out]; exact hkx) 9
          have C9 : Below w.heap.size w (w8.setCell ⟨g8, k, none⟩ (.int .u8 9)) := HC8.out.setCell (p := ⟨g8, k, none⟩) (Nat.le_trans HC2.out.size hg1) _
          have S9 : Src (w8.setCell ⟨g8, k, none⟩ (.int .u8 9)) g8 (.slice (some ⟨g8, 0, none⟩) X.length c8) (X.set k 9) := S8
          have HD := hidE ((refE_any S9 (fun _ => by simpa [World.setCell] using hg2) (by rw [List.length_set, HX.out]; omega) (by have q := words5 HR.out (k := k) (by rw [← HXE.out, HX.out]; exact hkx) (by rw [← HXE.out]; exact HKB.out); rw [← HXE.out] at q; exact q) (HAL.out.below C9)).mono fun r w' hq => (⟨hq.1, C9.trans (hq.2.mono C9.size)⟩ : _ ∧ Below w.heap.size w w'))
          rw [HX.out] at HD r8 hl8
          unfold bv at hcell
          unfold maxLen at hm8
          clear S9 S8 C9 HKB HO8 hg1 hg2 hw hy1 hy2
          go_wp2_with (at_builtin; refine wpList_append_run2 rfl _ _ 25 25 rfl _ _ _ w8 rfl rfl r8 ?_; clear r8)
          refine HD.out.mono ?_
          rintro r wz ⟨rfl, Bz⟩
          clear HD
          go_wp2
          go_ret
          exact ⟨rfl, Bz.alloc Bz.size _⟩
        · have hbo : bits BinOp.and IntKind.i64 how 7 = (6 : Int) := hbo
          have BA : Below w2.heap.size w2 (w8.alloc (.cells #[] 5)) := D8.out.alloc D8.out.size _
          obtain ⟨v9, w9, r9, O9, B9⟩ := own_append (Own.empty w2.heap.size w8 D8.out.size) ((HSX.out.keepB (fun _ => HKX.out) BA).take (m := y) (by rw [HX.out]; have := HY.out; omega)) (fun q => by cases q) (by have := HX.out; rw [List.length_take]; show 0 + _ ≤ _; omega) BA.size
          rw [List.nil_append] at O9
          have D9 := BA.trans B9
          obtain ⟨va, wa, ra, Oa, Ba⟩ := own_append_str (s := ⟨#[32, 49]⟩) O9 (by have := HX.out; rw [List.length_take]; show _ + 2 ≤ _; omega) D9.size
          have Da := D9.trans Ba
          have Oa' : Own w2.heap.size wa va (X.take y ++ [32, 49]) := Oa
          obtain ⟨vb, wb, rb, Ob, Bb⟩ := post_step 10 10 rfl Oa' (by have := HX.out; rw [List.length_append, List.length_take]; simp only [List.length_cons, List.length_nil]; omega) Da.size
          have C9 : Below w.heap.size w wb := HC2.out.trans ((Da.trans Bb).mono HC2.out.size)
          have HD := hidE (own_refd Ob (by have := HX.out; rw [List.length_append, List.length_append, List.length_take]; simp only [List.length_cons, List.length_nil]; omega) (by have q := words6 HR.out; rw [← HXE.out, HX.out, show i - 1 = y by have := HY.out; omega] at q; exact q) HAL.out C9)
          clear O9 B9 C9 HKB HO8 BA D9 Oa Ba Da Oa' Ob Bb
          go_wp2_with (at_builtin; first | (refine wpList_append_run2 rfl _ _ 25 9 rfl _ _ _ wa rfl rfl ra ?_) | (refine wpList_append_run2 rfl _ _ 25 25 rfl _ _ _ w8 rfl rfl r8 ?_; clear r8) | (refine wpList_append_run2 rfl _ _ 25 25 rfl _ _ _ w9 rfl rfl r9 ?_; clear r9) | (refine wpList_append_run2 rfl _ _ 25 25 rfl _ _ _ wb rfl rfl rb ?_))
          refine HD.out.mono ?_
          rintro r wz ⟨rfl, Bz⟩
          clear HD
          go_wp2
          go_ret
          exact ⟨rfl, Bz.alloc Bz.size _⟩
        · have hbo : bits BinOp.and IntKind.i64 how 7 = (7 : Int) := hbo
          obtain ⟨v9, w9, r9, O9, B9⟩ := pre_step 45 45 rfl HS8.out HK8.out (fun q => by cases q) (by rw [HX.out]; omega) D8.out.size
          have C9 : Below w.heap.size w w9 := HC2.out.trans ((D8.out.trans B9).mono HC2.out.size)
          have HD := hidE (own_refd O9 (by rw [List.length_append, HX.out]; simp only [List.length_cons, List.length_nil]; omega) (by rw [HXE.out]; exact words2 45 (.inr rfl) e) HAL.out C9)
          clear O9 B9 C9 HKB HO8 hw hy1 hy2
          go_wp2_with (at_builtin; first | (refine wpList_append_run2 rfl _ _ 25 25 rfl _ _ _ w8 rfl rfl r8 ?_; clear r8) | (refine wpList_append_run2 rfl _ _ 25 25 rfl _ _ _ w9 rfl rfl r9 ?_; clear r9))
          refine HD.out.mono ?_
          rintro r wz ⟨rfl, Bz⟩
          clear HD
          go_wp2
          go_ret
          exact ⟨rfl, Bz.alloc Bz.size _⟩
  · rw [if_neg hr] at hq
    obtain ⟨rfl, BW⟩ := hq
    go_wp2
    go_ret
    exact ⟨rfl, B1.trans (BW.mono B1.size)⟩
end Go.Proofs.YtpegjifimaijeaaDoor

/- Whatever the record and the two numbers, EntryWords answers true: of a right record's line, one with a blank more, a sign ahead, a byte less, an end more, another blank, or a word more is none. -/
namespace Go.Proofs.YtpegjifimaijeaaDoor.entryWords
open Go.ChangeShapes Go.WideShapes Go.ChangeAt Go.RowKit
open Go.ChangeMaps (open_string shut_string)
set_option linter.unusedVariables false

theorem own : ownKnob Tryd.prog.godebug = none := by kernel_rfl
theorem laidOut : laidOutB Tryd.prog = true := by kernel_rfl
theorem maxL_of {W : World} (hsh : W.ShapedOpen Tryd.prog) : MaxL W :=
  cell_of_shapedOpen_int (P := Tryd.prog) (g := 2) (t := 3) (zero := #[.int .i64 0]) hsh (of_decide_eq_true (by kernel_rfl)) (by kernel_rfl) rfl (by kernel_rfl) (by kernel_rfl) Tryd.underlying3
noncomputable def laidWorld (os : Os) : World := World.laidAll Tryd.prog os Rows.entryWordsRow.laid
theorem laid_met (os : Os) : laidMetH Tryd.prog Rows.entryWordsRow.laid ((laidWorld os).forCall (fun _ _ => 0) ⟨#[], #[.agg #[.int .i64 0, .int .i64 0, .int .i64 0, .int .i64 0, .string ⟨#[]⟩, .string ⟨#[]⟩, .int .i64 0, .int .i64 0, .int .i64 0], .int .i64 0, .int .i64 0], []⟩).memory := by
  rw [MakeChecks.laidMetH_plain _ _ _ (by kernel_rfl)]
  exact laidMet_laidAll _ (by kernel_rfl) (by kernel_rfl)
set_option maxRecDepth 100000 in
theorem lifted (os : Os) (started : os.Started) (H : Type) (enc : TypeId × Value → H) (F : Stop.Interp) :
    ReturnsInHanded {} Tryd.checked os 5 .any ((OpenSpec.ofChange Rows.entryWordsSpec).preRow enc Tryd.prog Tryd.f5 Rows.entryWordsRow.domain false Rows.entryWordsRow.laid) (((OpenSpec.ofChange Rows.entryWordsSpec).at F).post enc Tryd.prog Tryd.f5 false true false false) := by
  obtain ⟨places, hx⟩ := (⟨[], by kernel_rfl⟩ : ∃ places, DataW.whole enc Tryd.prog ((laidWorld os).forCall (fun _ _ => 0) ⟨#[], #[.agg #[.int .i64 0, .int .i64 0, .int .i64 0, .int .i64 0, .string ⟨#[]⟩, .string ⟨#[]⟩, .int .i64 0, .int .i64 0, .int .i64 0], .int .i64 0, .int .i64 0], []⟩).memory Tryd.f5.params.toList Rows.entryWordsSpec.vars false (#[.agg #[.int .i64 0, .int .i64 0, .int .i64 0, .int .i64 0, .string ⟨#[]⟩, .string ⟨#[]⟩, .int .i64 0, .int .i64 0, .int .i64 0], .int .i64 0, .int .i64 0] : Array Value).toList 8 = some ([.agg [.lit (.int .i64 0), .lit (.int .i64 0), .lit (.int .i64 0), .lit (.int .i64 0), .lit (.string []), .lit (.string []), .lit (.int .i64 0), .lit (.int .i64 0), .lit (.int .i64 0)], .lit (.int .i64 0), .lit (.int .i64 0)], [], places))
  refine returnsInHanded_of_row (C := Tryd.checked) (s := OpenSpec.ofChange Rows.entryWordsSpec) own started (by kernel_rfl) Tryd.func5
    (witness_row_atRef (enc := enc) (C := Tryd.checked) false (laidWorld os) #[.agg #[.int .i64 0, .int .i64 0, .int .i64 0, .int .i64 0, .string ⟨#[]⟩, .string ⟨#[]⟩, .int .i64 0, .int .i64 0, .int .i64 0], .int .i64 0, .int .i64 0] rfl (by kernel_rfl) (by kernel_rfl) (by kernel_rfl)
      (OpenSpec.preRow_of_cond 8 hx (by kernel_rfl) (fun k hk => by cases hk) (by kernel_rfl) (laid_met os))) ?_
  intro W base args ds gs before hval0 hW _ hcond hsz hlaid hsh _
  have hM := maxL_of hsh
  clear hsh
  have hval : ∀ (j : Nat) t v, Tryd.f5.params[j]? = some t → args[j]? = some v → Value.okWide Tryd.prog W .any base t v := hval0
  have hW' := hW
  obtain ⟨p, q, hA0, hV, rfl, hfz, hnd⟩ := hW
  have hA : DataW.TrodAll enc Tryd.prog W 0 (fun _ => true) true Tryd.f5.params.toList args.toList ds p := hA0
  rw [Tryd.params5] at hA hval
  obtain ⟨v0, vs0, d0, ds0, p0, q0, hargs, rfl, rfl, h0, r0⟩ := trodAll_cons hA
  obtain ⟨v1, vs1, d1, ds1, p1, q1, rfl, rfl, rfl, h1, r1⟩ := trodAll_cons r0
  obtain ⟨v2, vs2, d2, ds2, p2, q2, rfl, rfl, rfl, h2, r2⟩ := trodAll_cons r1
  obtain ⟨rfl, rfl, rfl⟩ := trodAll_nil r2
  obtain rfl : args = #[v0, v1, v2] := by cases args; simp_all
  obtain ⟨rfl, rfl⟩ := trodVars_none hV
  have k0 := h0
  have lt0 : ∀ x ∈ p0, x.block < W.heap.size := by obtain ⟨m, hm⟩ := k0; exact DataW.trod_lt m _ _ _ hm
  obtain ⟨e0, rfl, hm0, ht0⟩ := open_entry (hval 0 23 v0 rfl rfl) h0
  obtain ⟨a1, rfl, rfl, rfl, w1⟩ := open_int Tryd.underlying3 (hval 1 3 v1 rfl rfl) h1
  obtain ⟨a2, rfl, rfl, rfl, w2⟩ := open_int Tryd.underlying3 (hval 2 3 v2 rfl rfl) h2
  clear hA0 hval0
  have hP := tpow_of (l := Rows.entryWordsRow.laid) (by kernel_rfl) hlaid
  have hL := lm_of (l := Rows.entryWordsRow.laid) (by kernel_rfl) (by kernel_rfl) hlaid
  refine (words_walk e0 a1 a2 W hm0 ht0 ⟨hM, hL, hP⟩).mono fun e W' ⟨he, bel⟩ => ?_
  subst he
  exact ⟨_, rfl, _, _, _, [], _, [], hW', trodAll_mk1 (shut_bool Tryd.underlying4 _), (trodAll_cons_mk (Below.trod laidOut (by kernel_rfl) (of_decide_eq_true (by kernel_rfl)) k0 bel lt0) (trodAll_cons_mk (shut_int Tryd.underlying3 w1) (trodAll_cons_mk (shut_int Tryd.underlying3 w2) trodAll_mk0))), rfl, bel.frame _, fun h => by cases h⟩

theorem over : Rows.EntryWordsSaid :=
  OpenClaim.holds_of_cond 5 Tryd.f5 rfl rfl rfl rfl rfl rfl rfl ⟨rfl, rfl, rfl, rfl, rfl⟩ rfl rfl rfl rfl rfl (by kernel_rfl) Tryd.func5 (by kernel_rfl)
    (of_decide_eq_true (by kernel_rfl)) (by unfold Func.isWrapper; first | (rw [if_pos (by decide +kernel)]; kernel_rfl) | (rw [if_neg (by decide +kernel)]; exact ⟨rfl, rfl⟩))
    (fun os started H enc _ F => by rw [OpenClaim.pre_eq_preRow]; exact lifted os started H enc F)

end Go.Proofs.YtpegjifimaijeaaDoor.entryWords
namespace Go.Proofs.YtpegjifimaijeaaDoor
/-- The statement: the tied card. -/
theorem entryWords_holds : Rows.EntryWordsCardSaid :=
  Claim7.holds_tied_plain_at .later [] _ _ _ _
    entryWords.over (fun _ h => by cases h) (by kernel_rfl) (fun _ h => by cases h) entryWords_row_tie rfl ⟨rfl, rfl⟩ (by kernel_rfl) rfl
    (fun f fn hf hfn => by
      obtain rfl : f = 5 := Option.some.inj ((show Tryd.prog.funcNamed "tollbar/tollbarlaw13.EntryWords" = some 5 by kernel_rfl).symm.trans hf) |>.symm
      obtain rfl : fn = Tryd.f5 := (Option.some.inj (Tryd.func5.symm.trans hfn)).symm
      exact ⟨by kernel_rfl, fun j t ht => by
        rw [Tryd.params5] at ht
        have hm : t ∈ [23, 3, 3] := by simpa using Array.mem_of_getElem? ht
        have hall : ([23, 3, 3].all fun u => !Tryd.prog.wantsStandIn u) = true := by kernel_rfl
        exact (show Tryd.prog.wantsStandIn t = false by simpa using List.all_eq_true.1 hall t hm)⟩)
    (by kernel_rfl)
#print axioms entryWords_holds
end Go.Proofs.YtpegjifimaijeaaDoor
