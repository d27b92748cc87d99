/- Pool: its idle handles, gone through by a range over a function. -/
import Derived.RangeFuncNested
import Derived.RangeFuncBound
import Derived.RangeFuncCalls
import Derived.RangeFuncLeaves
import Derived.Shelf.Abstract
import Derived.Shelf.RegionOpen
import Derived.OwnWalkIn
import Derived.TacticsInMore
import Derived.LoopNIn
import Derived.LoopIn
import Derived.Test.YtlaigjapnmgjeaaPoG
namespace Go.Proofs.Ytlaigjapnmgjeaa
open Go.RowKit Go.Shelf
attribute [local go_sem] Oper.semAt_some
set_option linter.unusedVariables false

/-- What is read while the idle ones are gone through. -/
structure RP (W : World) (bp pb mk n N : Nat) (most last : Int) (q : HF) (rs : List Int) (v : Value) : Prop where
  cp : W.cell? ⟨bp, 0, none⟩ = some (.pointer (some ⟨pb, 0, none⟩))
  pl : PL W pb mk n N most last q rs v
theorem rev_take (rs : List Int) (i : Nat) (hi : i < rs.length) : rs.reverse.take (rs.length - i) = rs.reverse.take (rs.length - (i + 1)) ++ [rs.getD i 0] := by
  have h : rs.length - (i + 1) < rs.reverse.length := by rw [List.length_reverse]; omega
  rw [show rs.length - i = rs.length - (i + 1) + 1 by omega, List.take_succ_eq_append_getElem h]
  congr 2
  rw [List.getElem_reverse, List.getD_eq_getElem?_getD, List.getElem?_eq_getElem hi]
  show rs[rs.length - 1 - (rs.length - (i + 1))]'_ = rs[i]
  congr 1
  omega
set_option maxRecDepth 100000 in
set_option maxHeartbeats 1000000 in
theorem resting1_in (n l bp pb mk m N : Nat) (most last : Int) (q : HF) (rs : List Int) (v : Value) (J Jx : List Int → World → Prop) (hn : 1 ≤ n) (hlr : rs.length ≤ 1000000) (hir : ∀ x ∈ rs, InR x)
    (hP : ∀ pre W, J pre W → RP W bp pb mk m N most last q rs v)
    (hY : ∀ pre x W1, J pre W1 → pre ++ [x] <+: rs.reverse → YieldAt Fence.wide (n - 1) Try.prog l #[.int .i64 x, .agg #[.string (lookH (q x)).1, .int .i64 (lookH (q x)).2]] W1 fun e W' =>
      (e = .returned (.bool true) ∧ J (pre ++ [x]) W') ∨ (e = .returned (.bool false) ∧ Jx (pre ++ [x]) W'))
    (W : World) (h0 : J [] W) :
    CallsIn Fence.wide n Try.prog 43 #[.func (.yield l) #[] #[], .pointer (some ⟨bp, 0, none⟩)] W fun e W' => (∃ v, e = .returned v) ∧
      (J rs.reverse W' ∨ (∃ pre, pre <+: rs.reverse ∧ Jx pre W')) := by
  refine callsIn_of_wp Try.func43 rfl trivial ?_ rfl
  simp only [Try.ntmps43, List.size_toArray, List.length_cons, List.length_nil, Nat.reduceAdd, Nat.reduceSub, Array.replicate_succ, Array.replicate_zero, List.push_toArray, List.append_toArray, List.nil_append, List.cons_append]
  have hp0 := hP [] W h0
  have c0 := hp0.cp
  have c3 := hp0.pl.c3
  obtain ⟨av, cv, hvv⟩ : ∃ av cv, v = .slice av rs.length cv := by
    rcases hp0.pl.ro with ⟨hv, hr⟩ | ⟨g, c, hv, _⟩
    · exact ⟨none, 0, by rw [hv, hr]; rfl⟩
    · exact ⟨_, c, hv⟩
  subst hvv
  have f0 : IntKind.i64.wrap ((rs.length : Int) - 1) = (rs.length : Int) - 1 := by rw [IntKind.wrap_i64]; omega
  have HJ0 := hidE h0
  clear hp0 h0
  gi_wp2
  gi_loopw [3] (fun vi wr => ∃ j : Nat, j ≤ rs.length ∧ vi = .int .i64 ((j : Int) - 1) ∧ Hid (J (rs.reverse.take (rs.length - j)) wr)) (fun vi wr => (intOf vi + 1).toNat)
  case atStart => exact ⟨rs.length, Nat.le_refl _, rfl, by rw [Nat.sub_self]; exact HJ0⟩
  case round =>
    obtain ⟨j, hj, rfl, HJ⟩ := hrel
    clear c0 c3 HJ0
    cases j with
    | zero =>
      have HJ1 : Hid (J rs.reverse wr) := by have := HJ.out; rw [Nat.sub_zero, List.take_of_length_le (by rw [List.length_reverse]; exact Nat.le_refl _)] at this; exact this
      clear HJ
      gi_wp2
      refine bodyPost_end (results_none rfl _ _ _) rfl ?_
      exact ⟨⟨_, rfl⟩, .inl HJ1.out⟩
    | succ i =>
      have hi : i < rs.length := by omega
      have hp := hP _ _ HJ.out
      have c0 := hp.cp
      have c2 := hp.pl.c2
      have c3 := hp.pl.c3
      obtain ⟨g, rfl, hN⟩ : ∃ g, av = some ⟨g, 0, none⟩ ∧ NI wr g cv rs := by
        rcases hp.pl.ro with ⟨hv, hr⟩ | ⟨g, c, hv, hN, _⟩
        · rw [hr] at hi; cases hi
        · injection hv with e1 e2 e3
          subst e1 e3
          exact ⟨g, rfl, hN⟩
      have cx := hN.at i hi
      have hxr : InR (rs.getD i 0) := hir _ (by rw [List.getD_eq_getElem?_getD, List.getElem?_eq_getElem hi]; exact List.getElem_mem hi)
      have hlk := hp.pl.hm.look hxr
      have hrt := rev_take rs i hi
      obtain ⟨fn, tmps, assign, body, hy, hR⟩ := hY _ (rs.getD i 0) wr HJ.out (by rw [← hrt]; exact List.take_prefix _ _)
      rw [← hrt] at hR
      have e1 : (((i + 1 : Nat) : Int) - 1) = (i : Int) := by omega
      rw [e1]
      have m1 : (0 : Int) ≤ (i : Int) := by omega
      have m2 : (i : Int) < rs.length := by omega
      have m3 : IntKind.i64.wrap ((i : Int) - 1) = (i : Int) - 1 := by rw [IntKind.wrap_i64]; omega
      have HPX := hidE (show rs.reverse.take (rs.length - i) <+: rs.reverse from List.take_prefix _ _)
      clear hp hN hxr HJ hrt hP hY hir
      generalize rs.getD i 0 = x at *
      generalize (lookH (q x)).1 = y1 at *
      generalize (lookH (q x)).2 = y2 at *
      gi_wp2
      refine hR.mono ?_
      rintro e W3 (⟨rfl, hJ3⟩ | ⟨rfl, hJx3⟩)
      · have HJ3 := hidE hJ3
        clear hR hy hJ3
        gi_wp2
        go_roundw
        case rel => exact ⟨i, by omega, by first | rfl | go_num, HJ3⟩
        case measure => simp [intOf] <;> omega
      · have HJ3 := hidE hJx3
        clear hR hy hJx3
        gi_wp2
        refine bodyPost_ret (results_none rfl _ _ _) rfl ?_
        exact ⟨⟨_, rfl⟩, .inr ⟨_, HPX.out, HJ3.out⟩⟩
set_option maxHeartbeats 400000 in
theorem plresting_any (pb : Nat) (w : World) : Calls Try.prog 33 #[.pointer (some ⟨pb, 0, none⟩)] w fun e w' => e = .returned (.func (.func 43) #[] #[.pointer (some ⟨w.heap.size, 0, none⟩)]) ∧ w' = w.alloc (.cells #[.pointer (some ⟨pb, 0, none⟩)] 23) := by
  go_enter Try.func33, Try.ntmps33
  go_wp2
  go_ret
  exact ⟨by simp, rfl⟩
/-- What is no cells, from B on, lies as it lay. -/
def KeepB (B : Nat) (W V : World) : Prop := ∀ k o, B ≤ k → W.heap[k]? = some o → o.isCells = false → V.heap[k]? = some o
/-- How a round's body may be left. -/
def resPost (B : Nat) (I Ix : List Int → World → Prop) (xs : List Int) (W : World) : Exit → Act → World → Prop
  | .normal, _, V => KeepB B W V ∧ I xs V
  | .ret, _, V => KeepB B W V ∧ Ix xs V
  | _, _, _ => False
/-- A turn of a block that is no cells, from N on. -/
def OffR (N : Nat) (I : List Int → World → Prop) : Prop := ∀ pre W k o o', I pre W → W.heap[k]? = some o → o.isCells = false → N ≤ k → I pre (W.putObj k o')
def hdO (q : HF) (x : Int) : Obj := .cells #[.string (lookH (q x)).1, .int .i64 (lookH (q x)).2] 87
theorem range_resting {g : Operand} {ps : Array Tmp} {assign body : Code} {Q : Exit → Act → World → Prop} {a : Act} {w : World} (n bp pb mk m N : Nat) (most last : Int) (q : HF) (rs : List Int) (v : Value) (hn : 2 ≤ n) (hlr : rs.length ≤ 1000000) (hir : ∀ x ∈ rs, InR x)
    (hg : a.eval g = .func (.func 43) #[] #[.pointer (some ⟨bp, 0, none⟩)]) (hps : ps.size = 2)
    (I Ix : List Int → World → Prop) (hIp : OffR w.heap.size I) (hXp : OffR w.heap.size Ix) (hIa : ∀ pre W o, I pre W → I pre (W.alloc o))
    (hP : ∀ pre W, I pre W → RP W bp pb mk m N most last q rs v) (h0 : I [] w) (a1 : Int → Nat → Act)
    (hassign : ∀ l x W (K : Act → World → Prop), K (a1 x W.heap.size) (W.alloc (hdO q x)) → assign.wpIn (Fence.wide.inRound l) (n - 1 - 1) Try.prog (Exit.then K (fun _ _ _ => False)) { tmps := (ps.zip #[.int .i64 x, .agg #[.string (lookH (q x)).1, .int .i64 (lookH (q x)).2]]).foldl (fun t (p, v) => t.setIfInBounds p v) a.tmps, defers := [] } W)
    (hbody : ∀ l pre x W k, I pre W → pre ++ [x] <+: rs.reverse → W.heap[k]? = some (hdO q x) → body.wpIn (Fence.wide.inRound l) (n - 1 - 1) Try.prog (resPost w.heap.size I Ix (pre ++ [x]) W) (a1 x k) W)
    (hdone : ∀ D W, w.heap.size ≤ D → I rs.reverse W → W.heap[D]? = some (.deferred (some [])) → Q .normal { a with defers := { target := .collected D, args := #[] } :: a.defers } W)
    (hstop : ∀ D pre W, w.heap.size ≤ D → pre <+: rs.reverse → Ix pre W → W.heap[D]? = some (.deferred (some [])) → Code.ret.wpIn Fence.wide n Try.prog Q { a with defers := { target := .collected D, args := #[] } :: a.defers } W) :
    (Code.rangeFunc g ps assign body).wpIn Fence.wide n Try.prog Q a w := by
  refine wpIn_rangeFunc fun fn hfn => ?_
  let D := w.heap.size
  let R (st : LoopState) (pe : Option Code) : Loop := { state := st, pending := pe, fn, tmps := a.tmps, params := ps, assign, body, defers := D }
  have hen := run_enterLoop_outer (P := Try.prog) (w := w) fn a.tmps ps assign body
  have L1 : ((w.alloc (.deferred (some []))).alloc (.loop (R .ready none))).heap[D + 1]? = some (.loop (R .ready none)) := by
    have k := World.alloc_heap_new (w.alloc (.deferred (some []))) (.loop (R .ready none))
    rwa [World.size_alloc] at k
  have K1 : ((w.alloc (.deferred (some []))).alloc (.loop (R .ready none))).heap[D]? = some (.deferred (some [])) := (Below.heap_alloc _ _ _ (by simp [D])).trans (World.alloc_heap_new w _)
  have I1 : I [] ((w.alloc (.deferred (some []))).alloc (.loop (R .ready none))) := hIa _ _ _ (hIa _ _ _ h0)
  refine ⟨D + 1, [{ target := .collected D, args := #[] }], ((w.alloc (.deferred (some []))).alloc (.loop (R .ready none))), { target := .fn (.func 43) #[.pointer (some ⟨bp, 0, none⟩)], args := #[.func (.yield (D + 1)) #[] #[]] }, ((w.alloc (.deferred (some []))).alloc (.loop (R .ready none))), 43, #[.func (.yield (D + 1)) #[] #[]] ++ #[.pointer (some ⟨bp, 0, none⟩)], ((w.alloc (.deferred (some []))).alloc (.loop (R .ready none))), hen, ?_, fun _ _ => trivial, ?_, fun _ => by omega, ?_⟩
  · simp only [resolve, hg]
    simp [go_sem]
  · simp [invoke, go_sem]
  · refine (resting1_in (n - 1) (D + 1) bp pb mk m N most last q rs v
      (fun pre W => I pre W ∧ W.heap[D + 1]? = some (.loop (R .ready none)) ∧ W.heap[D]? = some (.deferred (some [])))
      (fun pre W => Ix pre W ∧ W.heap[D + 1]? = some (.loop (R .done (some .ret))) ∧ W.heap[D]? = some (.deferred (some [])))
      (by omega) hlr hir (fun pre W h => hP pre W h.1) ?_ _ ⟨I1, L1, K1⟩).mono ?_
    · rintro pre x W ⟨hi, hl, hk⟩ hpre
      have hlt := (Array.getElem?_eq_some_iff.1 hl).1
      have hyield := run_yield (P := Try.prog) (args := #[.int .i64 x, .agg #[.string (lookH (q x)).1, .int .i64 (lookH (q x)).2]]) hl (by show 2 = ps.size; omega)
      have hlA : (W.alloc (hdO q x)).heap[D + 1]? = some (.loop (R .ready none)) := (Below.heap_alloc _ _ _ hlt).trans hl
      have hltA := (Array.getElem?_eq_some_iff.1 hlA).1
      have hkA : (W.alloc (hdO q x)).heap[D]? = some (.deferred (some [])) := (Below.heap_alloc _ _ _ (Array.getElem?_eq_some_iff.1 hk).1).trans hk
      refine ⟨fn, _, assign, body, hyield, roundIn_of_wpIn hfn (hassign _ x W _ ⟨_, run_beginRound hlA rfl, ?_⟩)⟩
      have B1 : ((W.alloc (hdO q x)).putObj (D + 1) (.loop (R .busy none))).heap[D + 1]? = some (.loop (R .busy none)) := World.putObj_heap_same hltA
      have B2 : ((W.alloc (hdO q x)).putObj (D + 1) (.loop (R .busy none))).heap[D]? = some (.deferred (some [])) := (World.putObj_heap_other (by omega)).trans hkA
      have B3 : ((W.alloc (hdO q x)).putObj (D + 1) (.loop (R .busy none))).heap[W.heap.size]? = some (hdO q x) := (World.putObj_heap_other (by omega)).trans (tblk_new _ _)
      refine wpIn_mono (hbody _ pre x _ _ (hIp _ _ _ _ _ (hIa _ _ _ hi) hlA rfl (by simp only [D]; omega)) hpre B3) ?_
      intro e a3 V hp
      match e, hp with
      | .normal, ⟨hk3, hi3⟩ =>
        have l3 := hk3 _ _ (by simp only [D]; omega) B1 rfl
        have d3 := hk3 _ _ (Nat.le_refl _) B2 rfl
        exact ⟨_, _, run_endRound (P := Try.prog) none l3, .inl ⟨rfl, hIp _ _ _ _ _ hi3 l3 rfl (by simp only [D]; omega), World.putObj_heap_same (Array.getElem?_eq_some_iff.1 l3).1, (World.putObj_heap_other (by omega)).trans d3⟩⟩
      | .ret, ⟨hk3, hi3⟩ =>
        have l3 := hk3 _ _ (by simp only [D]; omega) B1 rfl
        have d3 := hk3 _ _ (Nat.le_refl _) B2 rfl
        exact ⟨_, _, run_endRound (P := Try.prog) (some .ret) l3, .inr ⟨rfl, hXp _ _ _ _ _ hi3 l3 rfl (by simp only [D]; omega), World.putObj_heap_same (Array.getElem?_eq_some_iff.1 l3).1, (World.putObj_heap_other (by omega)).trans d3⟩⟩
    · rintro e V ⟨⟨v, rfl⟩, (⟨hi, hl, hk⟩ | ⟨pre, hpre, hi, hl, hk⟩)⟩
      · exact ⟨none, _, run_endLoop (P := Try.prog) hl (by simp [R]), hdone _ _ (Nat.le_refl _) (hIp _ _ _ _ _ hi hl rfl (by simp only [D]; omega)) ((World.putObj_heap_other (by omega)).trans hk)⟩
      · exact ⟨some .ret, _, run_endLoop (P := Try.prog) hl (by simp [R]), hstop _ _ _ (Nat.le_refl _) hpre (hXp _ _ _ _ _ hi hl rfl (by simp only [D]; omega)) ((World.putObj_heap_other (by omega)).trans hk)⟩
end Go.Proofs.Ytlaigjapnmgjeaa
