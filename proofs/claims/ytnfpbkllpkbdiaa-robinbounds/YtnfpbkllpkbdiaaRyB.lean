/- RobinBounds: what turns where (rows and the map lie apart). -/
import Derived.Test.YtnfpbkllpkbdiaaRyA
namespace Go.Proofs.Ytnfpbkllpkbdiaa
open Go.RowKit
set_option linter.unusedVariables false

/-- 'm[k] = v', its run known. -/
theorem wpList_mapUpdate_run {P : Program} (w : World) {ops : Array Oper} {rest : List Oper} {o : Oper} {a : Act} {Q : Exit → Act → World → Prop}
    (hg : o.guard = none) (m x v : Operand) (t : TypeId) (hop : o.op = Op.mapUpdate t m x v) (mv key val : Value) (w' : World) (hm : a.eval m = mv) (hx : a.eval x = key) (hv : a.eval v = val)
    (hrun : (Instr.mapUpdate t mv key val).run P w = .ok () w') (hK : wpList P ops Q rest (a.put o.dst undef) w') : wpList P ops Q (o :: rest) a w := by
  refine wpList_plain hg fun K' hK' => ?_
  unfold Oper.wp
  simp [execOp, hop, hm, hx, hv, hrun, Result.andThen]
  exact hK' _ _ hK
theorem OI.blk {B : Nat} {w : World} {v : Value} {C : List Int} (h : OI B w v C) : ∀ k, v.ownBlock = some k → ∃ cur, w.heap[k]? = some (.cells cur 3) := by
  obtain ⟨_, ⟨h2, h3⟩ | ⟨g, c, cur, hv, hB, hg, _⟩⟩ := h
  · subst h2; intro k hk; cases hk
  · subst hv; intro k hk
    obtain rfl : g = k := by simpa [Value.ownBlock] using hk
    exact ⟨cur, hg⟩
theorem OwP.move {T : TypeId} {B : Nat} {w w' : World} {v : Value} {l : List Fl} (h : OwP T B w v l) (hk : ∀ (k : Nat) (cur : Array Value), w.heap[k]? = some (Obj.cells cur T) → w'.heap[k]? = w.heap[k]?) : OwP T B w' v l := by
  obtain ⟨h1, h2⟩ := h
  refine ⟨h1, ?_⟩
  rcases h2 with h2 | ⟨g, c, cur, hv, hB, hg, r⟩
  · exact .inl h2
  · exact .inr ⟨g, c, cur, hv, hB, (hk g cur hg).trans hg, r⟩
theorem isr_move {w w' : World} {b : Nat} {q cr la : Int} (h : IsR w b q cr la) (e : w'.heap[b]? = w.heap[b]?) : IsR w' b q cr la := by
  unfold IsR at *
  rw [e]; exact h
theorem isr_cells {w : World} {b : Nat} {q cr la : Int} (h : IsR w b q cr la) : ∃ cur, w.heap[b]? = some (.cells cur 40) := ⟨_, h⟩
/-- Cells stay where the map turns. -/
theorem put_keep {w w' : World} {mk n : Nat} {D : DataW Nat} (hom : w.ownsMap Try.prog 3 (plainElem Try.prog 3) mk n D) (hg : w.grownBy w' (some mk)) {k : Nat} {cur : Array Value} {t : TypeId} (h : w.heap[k]? = some (.cells cur t)) : w'.heap[k]? = w.heap[k]? :=
  hg.block k (Array.getElem?_eq_some_iff.1 h).1 (fun e => by
    cases e
    obtain ⟨es, cl, hm, _⟩ := hom
    rw [hm] at h
    cases h)
/-- The state behind an update of the map. -/
theorem SB.put {w : World} {rb mk : Nat} {q : Int} {C : List Int} {v9 : Value} {wr w6 : World} {U : Int → Int} {cr la : Int} {n : Nat} {D : DataW Nat} {ub ub' : Int} (h : SB w rb mk q C v9 wr U cr la n D ub) (hmk : w.heap.size ≤ mk)
    {x y : Int} (hx : x ∈ C) (hown : w6.ownsMap Try.prog 3 (plainElem Try.prog 3) mk (n + 1) (D.put (.int .i64 x) (.lit (.int .i64 y)))) (hg : wr.grownBy w6 (some mk)) (hy : 0 ≤ y ∧ y ≤ ub') (hub : ub ≤ ub') :
    SB w rb mk q C v9 w6 (fun c => if c = x then y else U c) cr la (n + 1) (D.put (.int .i64 x) (.lit (.int .i64 y))) ub' := by
  obtain ⟨rc, hrc⟩ := isr_cells h.ra
  refine ⟨isr_move h.ra (put_keep h.om hg hrc), hown, h.mw.set h.om.isMap x y hx, fun c hc => ?_, fun c hc => ?_, h.oi.block fun k cur hk _ => put_keep h.om hg hk, h.be.grown hg h.be.size (fun k e => by cases e; exact hmk)⟩
  · by_cases e : c = x
    · simp only [if_pos e]; exact hy
    · simp only [if_neg e]; have := h.un c hc; omega
  · have e : c ≠ x := fun e => hc (e ▸ hx)
    simp only [if_neg e]
    exact h.uz c hc
/-- The first loop's state: besides, the flows. -/
structure SA (w : World) (rb mk : Nat) (q : Int) (X : List Fl) (v47 : Value) (wr : World) (C : List Int) (U : Int → Int) (n : Nat) (D : DataW Nat) (v9 : Value) : Prop where
  sb : SB w rb mk q C v9 wr U 0 9223372036854775807 n D 3000
  fl : OwP 31 w.heap.size wr v47 X
  nd : C.Nodup
  ir : ∀ c ∈ C, InR c
theorem SA.grow {w : World} {rb mk : Nat} {q : Int} {X : List Fl} {v47 : Value} {wr wr' : World} {C : List Int} {U : Int → Int} {n : Nat} {D : DataW Nat} {v9 : Value} (h : SA w rb mk q X v47 wr C U n D v9) (b : Below wr.heap.size wr wr') : SA w rb mk q X v47 wr' C U n D v9 :=
  ⟨h.sb.grow b, h.fl.grow b, h.nd, h.ir⟩
/-- A connection that is new. -/
theorem SA.new {w : World} {rb mk : Nat} {q : Int} {X : List Fl} {v47 : Value} {wr : World} {C : List Int} {U : Int → Int} {n : Nat} {D : DataW Nat} {v9 : Value} (h : SA w rb mk q X v47 wr C U n D v9) (hmk : w.heap.size ≤ mk) (hn : n ≤ 1000) (hl : C.length ≤ 1000)
    {x y : Int} (hx : x ∉ C) (hxr : InR x) (hy : 0 ≤ y ∧ y ≤ 3000) :
    ∃ w6 v7 w7, (Instr.mapUpdate 27 (.map (some mk)) (.int .i64 x) (.int .i64 y)).run Try.prog wr = .ok () w6 ∧
      (Builtin.append_ #[28, 28] 28 #[v9, .slice (some ⟨w6.heap.size, 0, none⟩) 1 1]).run Try.prog (w6.alloc (.cells #[.int .i64 x] 3)) = .ok v7 w7 ∧
      SA w rb mk q X v47 w7 (C ++ [x]) (fun c => if c = x then y else U c) (n + 1) (D.put (.int .i64 x) (.lit (.int .i64 y))) v7 ∧ wr.grownBy w6 (some mk) := by
  have KI := Maps.int_keyed (P := Try.prog) (k := 3) Try.underlying3
  have hkey := Maps.keyOf_int_mk (P := Try.prog) (k := 3) Try.underlying3 (a := x) (WalkArith.wf_i64 hxr)
  have hwf : (Lit.int .i64 y).wf = true := WalkArith.wf_i64 (by omega)
  obtain ⟨w6, r6, hown6, hg6⟩ := h.sb.om.update KI Try.underlying27 (by unfold maxLen; omega) hkey (plainElem_int Try.underlying3 hwf)
  have B6 : Below w.heap.size w w6 := h.sb.be.grown hg6 h.sb.be.size (fun k e => by cases e; exact hmk)
  have O6 : OI w.heap.size w6 v9 C := h.sb.oi.block fun k cur hk _ => put_keep h.sb.om hg6 hk
  obtain ⟨rc, hrc⟩ := isr_cells h.sb.ra
  have R6 := isr_move h.sb.ra (put_keep h.sb.om hg6 hrc)
  have F6 := h.fl.move fun k cur hk => put_keep h.sb.om hg6 hk
  obtain ⟨v7, w7, r7, O7, B7, K7⟩ := oi_append O6 B6.size x (by omega)
  have keep : ∀ {k : Nat} {o : Obj}, w6.heap[k]? = some o → (∀ cur, o ≠ .cells cur 3) → w7.heap[k]? = w6.heap[k]? := fun {k o} hk hne => K7 k (Array.getElem?_eq_some_iff.1 hk).1 (fun e => by
    obtain ⟨cur, hc⟩ := O6.blk k e
    rw [hk] at hc
    injection hc with hc
    exact hne cur hc)
  obtain ⟨rc6, hrc6⟩ := isr_cells R6
  obtain ⟨es, cl, hm6, hrest⟩ := id hown6
  refine ⟨w6, v7, w7, r6, r7, ⟨⟨isr_move R6 (keep hrc6 (fun cur e => by injection e with _ e _; exact absurd e (by decide))), om_blk hown6 (keep hm6 (fun cur e => by cases e)), h.sb.mw.new h.sb.om.isMap x y hx, fun c hc => ?_, fun c hc => ?_, O7, B6.trans B7⟩,
    F6.move fun k cur hk => keep hk (fun cur2 e => by injection e with _ e _; exact absurd e (by decide)), ?_, fun c hc => ?_⟩, hg6⟩
  · by_cases e : c = x
    · simp only [if_pos e]; exact hy
    · simp only [if_neg e]
      rcases List.mem_append.1 hc with p | p
      · exact h.sb.un c p
      · exact absurd (List.mem_singleton.1 p) e
  · have e : c ≠ x := fun e => hc (List.mem_append.2 (.inr (List.mem_singleton.2 e)))
    simp only [if_neg e]
    exact h.sb.uz c (fun p => hc (List.mem_append.2 (.inl p)))
  · rw [List.nodup_append]
    exact ⟨h.nd, List.nodup_cons.2 ⟨(fun q => by cases q), List.nodup_nil⟩, fun a ha b hb => by
      rw [List.mem_singleton.1 hb]
      exact fun e => hx (e ▸ ha)⟩
  · rcases List.mem_append.1 hc with p | p
    · exact h.ir c p
    · rw [List.mem_singleton.1 p]; exact hxr
/-- What the map says of a connection. -/
theorem SB.look {w : World} {rb mk : Nat} {q : Int} {C : List Int} {v9 : Value} {wr : World} {U : Int → Int} {cr la : Int} {n : Nat} {D : DataW Nat} {ub : Int} (h : SB w rb mk q C v9 wr U cr la n D ub) {x : Int} (hx : x ∈ C) (hxr : InR x) :
    (Instr.lookup 27 (.map (some mk)) (.int .i64 x) false).run Try.prog wr = .ok (.int .i64 (U x)) wr := by
  have KI := Maps.int_keyed (P := Try.prog) (k := 3) Try.underlying3
  have hkey := Maps.keyOf_int_mk (P := Try.prog) (k := 3) Try.underlying3 (a := x) (WalkArith.wf_i64 hxr)
  obtain ⟨c, hrun, hat, _⟩ := h.om.lookup_int KI Try.underlying27 Try.underlying3 (Try.zeroValue3 _) hkey
  rw [h.mw.v x hx] at hat
  injection hat with hat
  injection hat with _ hat
  rw [hrun, ← hat]
theorem SA.look {w : World} {rb mk : Nat} {q : Int} {X : List Fl} {v47 : Value} {wr : World} {C : List Int} {U : Int → Int} {n : Nat} {D : DataW Nat} {v9 : Value} (h : SA w rb mk q X v47 wr C U n D v9) {x : Int} (hxr : InR x) :
    ∃ z, (Instr.lookup 27 (.map (some mk)) (.int .i64 x) true).run Try.prog wr = .ok (.tuple #[.int .i64 z, .bool (decide (x ∈ C))]) wr := by
  have KI := Maps.int_keyed (P := Try.prog) (k := 3) Try.underlying3
  have hkey := Maps.keyOf_int_mk (P := Try.prog) (k := 3) Try.underlying3 (a := x) (WalkArith.wf_i64 hxr)
  obtain ⟨v, ps, hrun, hv⟩ := h.sb.om.look_ok KI Try.underlying27 (Try.zeroValue3 _) (plainElem_int Try.underlying3 (by decide)) hkey
  obtain ⟨c, rfl, _, _⟩ := plainElem_int_inv Try.underlying3 hv
  exact ⟨c, by rw [hrun, h.sb.mw.h x]⟩
theorem SB.mono {w : World} {rb mk : Nat} {q : Int} {C : List Int} {v9 : Value} {wr : World} {U : Int → Int} {cr la : Int} {n n' : Nat} {D : DataW Nat} {ub ub' : Int} (h : SB w rb mk q C v9 wr U cr la n D ub) (hu : ub ≤ ub') (hn : n ≤ n') : SB w rb mk q C v9 wr U cr la n' D ub' :=
  ⟨h.ra, h.om.mono hn, h.mw, fun c hc => by have := h.un c hc; omega, h.uz, h.oi, h.be⟩
/-- The state behind a round. -/
theorem SB.round {w : World} {rb mk : Nat} {q : Int} {C : List Int} {v9 : Value} {wr w5 : World} {U : Int → Int} {cr la cr' la' : Int} {n : Nat} {D : DataW Nat} {ub : Int} (h : SB w rb mk q C v9 wr U cr la n D ub) (x : Ex rb wr w5) (hr : IsR w5 rb q cr' la') (hne : mk ≠ rb) (hrb : w.heap.size ≤ rb) : SB w rb mk q C v9 w5 U cr' la' n D ub :=
  ⟨hr, om_blk h.om (x.block mk h.om.lt hne), h.mw, h.un, h.uz, h.oi.block fun k cur hk _ => x.block k (Array.getElem?_eq_some_iff.1 hk).1 (fun e => by
    subst e
    obtain ⟨rc, hrc⟩ := isr_cells h.ra
    rw [hk] at hrc
    injection hrc with hrc
    injection hrc with _ e _
    exact absurd e (by decide)), h.be.trans (x.below hrb h.be.size)⟩
theorem ap1_eq (U : Int → Int) (x y : Int) : (fun c => if c = x then U x - y else U c) = ap1 U (x, y) := by
  funext c
  unfold ap1
  by_cases e : c = x
  · rw [e]
  · rw [if_neg e, if_neg e]
theorem OwP.cell {B : Nat} {w : World} {a : Option Addr} {len c : Nat} {l : List Fl} (h : OwP 31 B w (.slice a len c) l) (i : Nat) (hi : i < l.length) : ∃ g off, a = some ⟨g, off, none⟩ ∧ w.cell? ⟨g, off + i * 2, none⟩ = some (.int .i64 (l.getD i (0, 0)).1) ∧ w.cell? ⟨g, off + i * 2 + 1, none⟩ = some (.int .i64 (l.getD i (0, 0)).2) := by
  obtain ⟨a', c', e, hf⟩ := h.fls
  injection e with e1 e2 e3
  subst e1
  obtain ⟨g, off, rfl, _, hc⟩ := hf.2.2.2 (by omega)
  exact ⟨g, off, rfl, (hc i hi).1, (hc i hi).2⟩
theorem OI.cell {B : Nat} {w : World} {a : Option Addr} {len c : Nat} {C : List Int} (h : OI B w (.slice a len c) C) (i : Nat) (hi : i < C.length) : ∃ g, a = some ⟨g, 0, none⟩ ∧ w.cell? ⟨g, i, none⟩ = some (.int .i64 (C.getD i 0)) := by
  obtain ⟨a', c', e, hf⟩ := h.at
  injection e with e1 e2 e3
  subst e1
  obtain ⟨g, rfl, _, _, hc⟩ := hf (by omega)
  exact ⟨g, rfl, hc i hi⟩
end Go.Proofs.Ytnfpbkllpkbdiaa
