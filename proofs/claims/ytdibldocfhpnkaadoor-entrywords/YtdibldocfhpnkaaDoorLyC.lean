/- A loop over bytes.Lines: the body's own walk is asked, and what follows. -/
import Derived.Test.YtdibldocfhpnkaaDoorLyB
namespace Go.Proofs.YtdibldocfhpnkaaDoor
open Go.RowKit Go.Shelf
set_option linter.unusedVariables false

/-- How a round's body may be left. -/
def linPostY (bc : Nat) (I Ix : List (List UInt8) → World → Prop) (xs : List (List UInt8)) (W : World) : Exit → Act → World → Prop
  | .normal, _, V => KeepsOthers W V ∧ V.heap[bc]? = W.heap[bc]? ∧ I xs V
  | .ret, _, V => KeepsOthers W V ∧ Ix xs V
  | _, _, _ => False
/-- A turn of a block that is no cells, from N on. -/
def OffY (N : Nat) (I : List (List UInt8) → World → Prop) : Prop := ∀ pre W k o o', I pre W → W.heap[k]? = some o → o.isCells = false → N ≤ k → I pre (W.putObj k o')
theorem setCell_offY (W : World) (bc k : Nat) (v : Value) {o : Obj} (h : W.heap[k]? = some o) (hk : k ≠ bc) : (W.setCell ⟨bc, 0, none⟩ v).heap[k]? = some o := (Below.heap_setCell W ⟨bc, 0, none⟩ v k hk).trans h
theorem range_blines {g : Operand} {ps : Array Tmp} {assign body : Code} {Q : Exit → Act → World → Prop} {a : Act} {w : World} (w0 : World) (n bc k : Nat) (hn : 2 ≤ n) (hbc : bc < w.heap.size)
    (s0 : List UInt8) (hs0 : s0.length ≤ 4294967296) (hc : LeftY w0 w bc k s0) (hg : a.eval g = .func (.func 46) #[] #[.pointer (some ⟨bc, 0, none⟩)]) (hps : ps.size = 1)
    (I Ix : List (List UInt8) → World → Prop) (hIp : OffY w.heap.size I) (hXp : OffY w.heap.size Ix) (hIa : ∀ pre W o, I pre W → I pre (W.alloc o))
    (hIs : ∀ pre W v, I pre W → I pre (W.setCell ⟨bc, 0, none⟩ v)) (hId : ∀ pre W, I pre W → I pre W.drew) (h0 : I [] w) (hIk : ∀ pre W, I pre W → W.heap[k]? = w0.heap[k]?) (a1 : Value → Act)
    (hassign : ∀ l x W (K : Act → World → Prop), K (a1 x) W → assign.wpIn (Fence.wide.inRound l) (n - 1 - 1) Tryd.prog (Exit.then K (fun _ _ _ => False)) { tmps := (ps.zip #[x]).foldl (fun t (p, v) => t.setIfInBounds p v) a.tmps, defers := [] } W)
    (hbody : ∀ l pre x sa W, I pre W → Src w0 k (.slice sa x.length x.length) x → 0 < x.length → pre ++ [x] <+: linesL s0 → body.wpIn (Fence.wide.inRound l) (n - 1 - 1) Tryd.prog (linPostY bc I Ix (pre ++ [x]) W) (a1 (.slice sa x.length x.length)) W)
    (hdone : ∀ D W, w.heap.size ≤ D → I (linesL s0) W → W.heap[D]? = some (.deferred (some [])) → Q .normal { a with defers := { target := .collected D, args := #[] } :: a.defers } W)
    (hstop : ∀ D pre W, w.heap.size ≤ D → pre <+: linesL s0 → Ix pre W → W.heap[D]? = some (.deferred (some [])) → Code.ret.wpIn Fence.wide n Tryd.prog Q { a with defers := { target := .collected D, args := #[] } :: a.defers } W) :
    (Code.rangeFunc g ps assign body).wpIn Fence.wide n Tryd.prog Q a w := by
  refine wpIn_rangeFunc fun fn hfn => ?_
  let D := w.heap.size
  let R (st : LoopState) (pe : Option Code) : Loop := { state := st, pending := pe, fn, tmps := a.tmps, params := ps, assign, body, defers := D }
  have hen := run_enterLoop_outer (P := Tryd.prog) (w := w) fn a.tmps ps assign body
  have L1 : ((w.alloc (.deferred (some []))).alloc (.loop (R .ready none))).heap[D + 1]? = some (.loop (R .ready none)) := by
    have k := World.alloc_heap_new (w.alloc (.deferred (some []))) (.loop (R .ready none))
    rwa [World.size_alloc] at k
  have K1 : ((w.alloc (.deferred (some []))).alloc (.loop (R .ready none))).heap[D]? = some (.deferred (some [])) := (Below.heap_alloc _ _ _ (by simp [D])).trans (World.alloc_heap_new w _)
  have I1 : I [] ((w.alloc (.deferred (some []))).alloc (.loop (R .ready none))) := hIa _ _ _ (hIa _ _ _ h0)
  have C1 : LeftY w0 ((w.alloc (.deferred (some []))).alloc (.loop (R .ready none))) bc k s0 := by
    obtain ⟨ca, cc, h1, h2⟩ := hc
    exact ⟨ca, cc, ((Below.heap_alloc _ _ _ (by simp; omega)).trans (Below.heap_alloc w _ _ hbc)).trans h1, h2⟩
  refine ⟨D + 1, [{ target := .collected D, args := #[] }], ((w.alloc (.deferred (some []))).alloc (.loop (R .ready none))), { target := .fn (.func 46) #[.pointer (some ⟨bc, 0, none⟩)], args := #[.func (.yield (D + 1)) #[] #[]] }, ((w.alloc (.deferred (some []))).alloc (.loop (R .ready none))), 46, #[.func (.yield (D + 1)) #[] #[]] ++ #[.pointer (some ⟨bc, 0, none⟩)], ((w.alloc (.deferred (some []))).alloc (.loop (R .ready none))), hen, ?_, fun _ _ => trivial, ?_, fun _ => by omega, ?_⟩
  · simp only [resolve, hg]
    simp [go_sem]
  · simp [invoke, go_sem]
  · refine (blines1_in w0 (n - 1) (D + 1) bc k s0 hs0
      (fun pre W => I pre W ∧ W.heap[D + 1]? = some (.loop (R .ready none)) ∧ W.heap[D]? = some (.deferred (some [])))
      (fun pre W => Ix pre W ∧ W.heap[D + 1]? = some (.loop (R .done (some .ret))) ∧ W.heap[D]? = some (.deferred (some [])))
      (by omega) (fun pre W v h => ⟨hIs _ _ _ h.1, setCell_offY _ _ _ _ h.2.1 (by simp only [D]; omega), setCell_offY _ _ _ _ h.2.2 (by simp only [D]; omega)⟩) (fun pre W h => ⟨hId _ _ h.1, h.2.1, h.2.2⟩) (fun pre W h => hIk _ _ h.1) ?_ _ C1 ⟨I1, L1, K1⟩).mono ?_
    · rintro pre x sa W ⟨hi, hl, hk⟩ hSx hxp hpre
      have hlt := (Array.getElem?_eq_some_iff.1 hl).1
      have hyield := run_yield (P := Tryd.prog) (args := #[.slice sa x.length x.length]) hl (by show 1 = ps.size; omega)
      refine ⟨fn, _, assign, body, hyield, roundIn_of_wpIn hfn (hassign _ (.slice sa x.length x.length) W _ ⟨_, run_beginRound hl rfl, ?_⟩)⟩
      have B1 : (W.putObj (D + 1) (.loop (R .busy none))).heap[D + 1]? = some (.loop (R .busy none)) := World.putObj_heap_same hlt
      have B2 : (W.putObj (D + 1) (.loop (R .busy none))).heap[D]? = some (.deferred (some [])) := (World.putObj_heap_other (by omega)).trans hk
      have B3 : (W.putObj (D + 1) (.loop (R .busy none))).heap[bc]? = W.heap[bc]? := World.putObj_heap_other (by simp only [D]; omega)
      refine wpIn_mono (hbody _ pre x sa _ (hIp _ _ _ _ _ hi hl rfl (by simp only [D]; omega)) hSx hxp hpre) ?_
      intro e a3 V hp
      match e, hp with
      | .normal, ⟨hk3, hb3, hi3⟩ =>
        have l3 := hk3.same _ _ B1 rfl
        have d3 := hk3.same _ _ B2 rfl
        refine ⟨_, _, run_endRound (P := Tryd.prog) none l3, .inl ⟨rfl, ⟨hIp _ _ _ _ _ hi3 l3 rfl (by simp only [D]; omega), World.putObj_heap_same (Array.getElem?_eq_some_iff.1 l3).1, (World.putObj_heap_other (by omega)).trans d3⟩, ?_⟩⟩
        exact (World.putObj_heap_other (by simp only [D]; omega)).trans (hb3.trans B3)
      | .ret, ⟨hk3, hi3⟩ =>
        have l3 := hk3.same _ _ B1 rfl
        have d3 := hk3.same _ _ B2 rfl
        exact ⟨_, _, run_endRound (P := Tryd.prog) (some .ret) l3, .inr ⟨rfl, hXp _ _ _ _ _ hi3 l3 rfl (by simp only [D]; omega), World.putObj_heap_same (Array.getElem?_eq_some_iff.1 l3).1, (World.putObj_heap_other (by omega)).trans d3⟩⟩
    · rintro e V ⟨⟨v, rfl⟩, (⟨hi, hl, hk⟩ | ⟨pre, hpre, hi, hl, hk⟩)⟩
      · exact ⟨none, _, run_endLoop (P := Tryd.prog) hl (by simp [R]), hdone _ _ (Nat.le_refl _) (hIp _ _ _ _ _ hi hl rfl (by simp only [D]; omega)) ((World.putObj_heap_other (by omega)).trans hk)⟩
      · exact ⟨some .ret, _, run_endLoop (P := Tryd.prog) hl (by simp [R]), hstop _ _ _ (Nat.le_refl _) hpre (hXp _ _ _ _ _ hi hl rfl (by simp only [D]; omega)) ((World.putObj_heap_other (by omega)).trans hk)⟩
end Go.Proofs.YtdibldocfhpnkaaDoor
