/- Texts that the proof leans on, one behind the other: LiA LiB LiC LiD -/
import Derived.Test.YthmhaflkkigenaaGreatDoorTb
import Derived.Lib.Bytealg
import Derived.RangeFuncNested
import Derived.RangeFuncBound
import Derived.RangeFuncCalls
import Derived.RangeFuncLeaves
import Derived.Shelf.Abstract
import Derived.Shelf.RegionOpen
import Derived.WalkKit
import Derived.OwnWalkIn
import Derived.TacticsInMore
import Derived.LoopNIn
import Derived.LoopIn
import Derived.Test.YthmhaflkkigenaaGreatDoorTa
/- The lines of a text, each with its end, plain. -/
namespace Go.Proofs.YthmhaflkkigenaaGreatDoor
open Go.RowKit
set_option linter.unusedVariables false

def lnA : List UInt8 → List UInt8 → List (List UInt8)
  | acc, [] => if acc = [] then [] else [acc]
  | acc, b :: l => if b = 10 then (acc ++ [b]) :: lnA [] l else lnA (acc ++ [b]) l
/-- The lines. -/
def linesL (l : List UInt8) : List (List UInt8) := lnA [] l
theorem lnA_hit : ∀ (l acc : List UInt8) (i : Nat), Lib.indexByte l 10 = i → lnA acc l = (acc ++ l.take (i + 1)) :: linesL (l.drop (i + 1))
  | [], acc, i, h => by unfold Lib.indexByte at h; omega
  | b :: l, acc, i, h => by
    unfold Lib.indexByte at h
    by_cases hb : b = 10
    · subst hb
      rw [if_pos (by rfl)] at h
      have : i = 0 := by omega
      subst this
      unfold lnA
      rw [if_pos rfl]
      rfl
    · rw [if_neg (by simpa using hb)] at h
      by_cases h2 : Lib.indexByte l 10 = -1
      · rw [if_pos (by simpa using h2)] at h
        omega
      · rw [if_neg (by simpa using h2)] at h
        have hge := Lib.indexByte_ge l 10
        obtain ⟨j, hj⟩ : ∃ j : Nat, Lib.indexByte l 10 = j := ⟨(Lib.indexByte l 10).toNat, by omega⟩
        have : i = j + 1 := by omega
        subst this
        unfold lnA
        rw [if_neg hb, lnA_hit l (acc ++ [b]) j hj]
        simp
theorem lnA_miss : ∀ (l acc : List UInt8), Lib.indexByte l 10 = -1 → acc ++ l ≠ [] → lnA acc l = [acc ++ l]
  | [], acc, _, h => by
    unfold lnA
    rw [List.append_nil] at h
    rw [if_neg h, List.append_nil]
  | b :: l, acc, h, hn => by
    unfold Lib.indexByte at h
    by_cases hb : b = 10
    · subst hb
      rw [if_pos (by rfl)] at h
      exact absurd h (by decide)
    · rw [if_neg (by simpa using hb)] at h
      have h2 : Lib.indexByte l 10 = -1 := by
        by_cases h2 : Lib.indexByte l 10 = -1
        · exact h2
        · rw [if_neg (by simpa using h2)] at h
          have := Lib.indexByte_ge l 10
          omega
      unfold lnA
      rw [if_neg hb, lnA_miss l (acc ++ [b]) h2 (by simp)]
      simp
theorem lines_hit (l : List UInt8) (i : Nat) (h : Lib.indexByte l 10 = i) : linesL l = l.take (i + 1) :: linesL (l.drop (i + 1)) := by
  have := lnA_hit l [] i h
  rwa [List.nil_append] at this
theorem lines_miss (l : List UInt8) (h : Lib.indexByte l 10 = -1) (hn : l ≠ []) : linesL l = [l] := by
  have := lnA_miss l [] h (by simpa using hn)
  rwa [List.nil_append] at this
theorem lines_nil : linesL [] = [] := rfl
theorem idx_lt (c : UInt8) : ∀ (l : List UInt8) (i : Nat), Lib.indexByte l c = i → i < l.length
  | [], i, h => by unfold Lib.indexByte at h; omega
  | b :: l, i, h => by
    unfold Lib.indexByte at h
    split at h
    · simp; omega
    · split at h
      · omega
      · have hge := Lib.indexByte_ge l c
        have h2 : ¬ Lib.indexByte l c = -1 := by simpa using (by assumption : ¬ (Lib.indexByte l c == -1) = true)
        obtain ⟨j, hj⟩ : ∃ j : Nat, Lib.indexByte l c = j := ⟨(Lib.indexByte l c).toNat, by omega⟩
        have := idx_lt c l j hj
        simp; omega
end Go.Proofs.YthmhaflkkigenaaGreatDoor

/- strings.Lines: its iterator, which keeps what is left in a cell of its own. -/
namespace Go.Proofs.YthmhaflkkigenaaGreatDoor
open Go.RowKit Go.Shelf
attribute [local go_sem] Oper.semAt_some
set_option linter.unusedVariables false

def txt (l : List UInt8) : ByteArray := ⟨l.toArray⟩
/-- What is left lies in block bc. -/
def Left10 (W : World) (bc : Nat) (r : List UInt8) : Prop := W.heap[bc]? = some (.cells #[.string (txt r)] 9)
def lenAt (bc : Nat) (W : World) : Nat := match W.cell? ⟨bc, 0, none⟩ with | some (.string s) => s.size | _ => 0
set_option maxRecDepth 100000 in
set_option maxHeartbeats 1000000 in
theorem lines1_in (n l bc : Nat) (s0 : List UInt8) (hs0 : s0.length ≤ 1048576) (J Jx : List ByteArray → World → Prop) (hn : 1 ≤ n)
    (hset : ∀ pre W v, J pre W → J pre (W.setCell ⟨bc, 0, none⟩ v)) (hdrew : ∀ pre W, J pre W → J pre W.drew)
    (hY : ∀ pre x W1, J pre W1 → pre ++ [x] <+: (linesL s0).map txt → YieldAt Fence.wide (n - 1) Tryz.prog l #[.string x] W1 fun e W' =>
      (e = .returned (.bool true) ∧ J (pre ++ [x]) W' ∧ W'.heap[bc]? = W1.heap[bc]?) ∨ (e = .returned (.bool false) ∧ Jx (pre ++ [x]) W'))
    (W : World) (hc : Left10 W bc s0) (h0 : J [] W) :
    CallsIn Fence.wide n Tryz.prog 51 #[.func (.yield l) #[] #[], .pointer (some ⟨bc, 0, none⟩)] W fun e W' => (∃ v, e = .returned v) ∧
      (J ((linesL s0).map txt) W' ∨ (∃ pre, pre <+: (linesL s0).map txt ∧ Jx pre W')) := by
  refine callsIn_of_wp Tryz.func51 rfl trivial ?_ rfl
  simp only [Tryz.ntmps51, List.size_toArray, List.length_cons, List.length_nil, Nat.reduceAdd, Nat.reduceSub, Array.replicate_succ, Array.replicate_zero, List.push_toArray, List.append_toArray, List.nil_append, List.cons_append]
  gi_wp2
  gi_loopw [] (fun wr => ∃ (pre : List ByteArray) (r : List UInt8), Hid ((linesL s0).map txt = pre ++ (linesL r).map txt) ∧ r.length ≤ 1048576 ∧ Hid (Left10 wr bc r) ∧ Hid (J pre wr)) (fun wr => lenAt bc wr)
  case atStart => exact ⟨[], s0, rfl, hs0, hc, h0⟩
  case round =>
    obtain ⟨pre, r, hL, hr, hc1, hJ⟩ := hrel
    clear hc h0
    have hc2 : wr.cell? ⟨bc, 0, none⟩ = some (.string (txt r)) := ring_cell hc1.out rfl
    have hz2 : wr.frozen? ⟨bc, 0, none⟩ = false := ring_z hc1.out
    have hsz : (txt r).size = r.length := by show r.toArray.size = _; simp
    rcases Nat.eq_zero_or_pos r.length with z | z
    · obtain rfl : r = [] := List.eq_nil_of_length_eq_zero z
      have e0 : txt [] = ⟨#[]⟩ := rfl
      rw [e0] at hc2
      clear hsz z e0
      have HJ0 : Hid (J ((linesL s0).map txt) wr) := by rw [Hid, hL.out, lines_nil, List.map_nil, List.append_nil]; exact hJ.out
      gi_wp2
      refine bodyPost_end (results_none rfl _ _ _) rfl ?_
      exact ⟨⟨_, rfl⟩, .inl HJ0.out⟩
    · have hp : (0 : Int) < ((txt r).size : Int) := by omega
      have hd : (txt r).data.toList = r := rfl
      have HI : Hid (Calls Tryz.prog 52 #[.string (txt r), .int .u8 10] wr fun e w' => e = .returned (.int .i64 (Lib.indexByte r 10)) ∧ w' = wr) := by
        have k := Tryz.strings_IndexByte (txt r) 10 wr
        exact k
      clear hd
      by_cases hh : Lib.indexByte r 10 = -1
      · rw [hh] at HI
        have hne : r ≠ [] := fun e => by rw [e] at z; exact absurd z (by decide)
        have hL1 : Hid ((linesL s0).map txt = pre ++ [txt r]) := by rw [Hid, hL.out, lines_miss r hh hne]; rfl
        have hcc : Hid (Left10 (wr.setCell ⟨bc, 0, none⟩ (.string ⟨#[]⟩)) bc []) := by rw [Hid]; unfold Left10; rw [ring_set hc1.out]; rfl
        obtain ⟨fn, tmps, assign, body, hy, hR⟩ := hY pre (txt r) (wr.setCell ⟨bc, 0, none⟩ (.string ⟨#[]⟩)) (hset _ _ _ hJ.out) (by rw [hL1.out]; exact List.prefix_rfl)
        clear hsz hne hh hJ hL hc1
        gi_wp2_with (refine ⟨trivial, ?_⟩; gi_at_call 52; refine (callsIn_wide.2 HI.out).mono ?_; rintro e w' ⟨rfl, rfl⟩)
        refine hR.mono ?_
        rintro e W3 (⟨rfl, hJ3, hk3⟩ | ⟨rfl, hJx3⟩)
        · have hc3 : Hid (Left10 W3 bc []) := hk3.trans hcc.out
          clear hk3 hR hy
          gi_wp2
          go_roundw
          case rel => exact ⟨pre ++ [txt r], [], by rw [Hid, hL1.out, lines_nil, List.map_nil, List.append_nil], by decide, hc3, hJ3⟩
          case measure =>
            have e1 : lenAt bc W3 = 0 := by unfold lenAt; rw [show W3.cell? ⟨bc, 0, none⟩ = some (.string (txt [])) from ring_cell hc3.out rfl]; rfl
            have e2 : ∀ w0 : World, w0.cell? ⟨bc, 0, none⟩ = some (.string (txt r)) → lenAt bc w0 = (txt r).size := fun w0 h => by unfold lenAt; rw [h]
            rw [e1, e2 _ hc2]
            omega
        · clear hR hy
          gi_wp2
          refine bodyPost_ret (results_none rfl _ _ _) rfl ?_
          exact ⟨⟨_, rfl⟩, .inr ⟨pre ++ [txt r], by rw [hL1.out]; exact ⟨[], by simp⟩, hJx3⟩⟩
      · have hge := Lib.indexByte_ge r 10
        obtain ⟨i, hi⟩ : ∃ i : Nat, Lib.indexByte r 10 = i := ⟨(Lib.indexByte r 10).toNat, by omega⟩
        have hil := idx_lt 10 r i hi
        rw [hi] at HI
        have hL1 : Hid ((linesL s0).map txt = pre ++ [txt (r.take (i + 1))] ++ (linesL (r.drop (i + 1))).map txt) := by rw [Hid, hL.out, lines_hit r i hi, List.map_cons, List.append_assoc]; rfl
        have he1 : (txt r).extract 0 (i + 1) = txt (r.take (i + 1)) := by
          apply ByteArray.ext
          show ((txt r).extract 0 (i + 1)).data = _
          rw [ByteArray.data_extract]
          show (r.toArray).extract 0 (i + 1) = (r.take (i + 1)).toArray
          simp
        have he2 : (txt r).extract (i + 1) r.length = txt (r.drop (i + 1)) := by
          apply ByteArray.ext
          show ((txt r).extract (i + 1) _).data = _
          rw [ByteArray.data_extract]
          show (r.toArray).extract (i + 1) _ = (r.drop (i + 1)).toArray
          simp only [List.extract_toArray, List.extract_eq_take_drop]
          rw [List.take_of_length_le (by rw [List.length_drop]; exact Nat.le_refl _)]
        have hcc : Hid (Left10 (wr.setCell ⟨bc, 0, none⟩ (.string (txt (r.drop (i + 1))))) bc (r.drop (i + 1))) := by rw [Hid]; unfold Left10; rw [ring_set hc1.out]; rfl
        have hiz : (i : Int) + 1 ≤ ((txt r).size : Int) := by omega
        obtain ⟨fn, tmps, assign, body, hy, hR⟩ := hY pre (txt (r.take (i + 1))) (wr.setCell ⟨bc, 0, none⟩ (.string (txt (r.drop (i + 1))))).drew (hdrew _ _ (hset _ _ _ hJ.out)) (by rw [hL1.out]; exact ⟨_, rfl⟩)
        clear hge hh hi hL
        gi_wp2_with (refine ⟨trivial, ?_⟩; gi_at_call 52; refine (callsIn_wide.2 HI.out).mono ?_; rintro e w' ⟨rfl, rfl⟩)
        gi_region
        gi_wp2
        refine hR.mono ?_
        rintro e W3 (⟨rfl, hJ3, hk3⟩ | ⟨rfl, hJx3⟩)
        · have hc3 : Hid (Left10 W3 bc (r.drop (i + 1))) := hk3.trans hcc.out
          clear hk3 hR hy he1 he2
          gi_wp2
          go_roundw
          case rel => exact ⟨pre ++ [txt (r.take (i + 1))], r.drop (i + 1), hL1, by rw [List.length_drop]; omega, hc3, hJ3⟩
          case measure =>
            have e1 : lenAt bc W3 = r.length - (i + 1) := by
              unfold lenAt
              rw [show W3.cell? ⟨bc, 0, none⟩ = some (.string (txt (r.drop (i + 1)))) from ring_cell hc3.out rfl]
              show ((r.drop (i + 1)).toArray).size = _
              rw [List.size_toArray, List.length_drop]
            have e2 : ∀ w0 : World, w0.cell? ⟨bc, 0, none⟩ = some (.string (txt r)) → lenAt bc w0 = (txt r).size := fun w0 h => by unfold lenAt; rw [h]
            rw [e1, e2 _ hc2]
            omega
        · clear hR hy he1 he2
          gi_wp2
          refine bodyPost_ret (results_none rfl _ _ _) rfl ?_
          exact ⟨⟨_, rfl⟩, .inr ⟨pre ++ [txt (r.take (i + 1))], by rw [hL1.out]; exact ⟨_, rfl⟩, hJx3⟩⟩
end Go.Proofs.YthmhaflkkigenaaGreatDoor

/- A loop over strings.Lines: the body's own walk is asked, and what follows. -/
namespace Go.Proofs.YthmhaflkkigenaaGreatDoor
open Go.RowKit Go.Shelf
set_option linter.unusedVariables false

/-- How a round's body may be left. -/
def linPost (bc : Nat) (I Ix : List ByteArray → World → Prop) (xs : List ByteArray) (W : World) : Exit → Act → World → Prop
  | .normal, _, V => KeepsOthers W V ∧ V.heap[bc]? = W.heap[bc]? ∧ I xs V
  | .ret, _, V => KeepsOthers W V ∧ Ix xs V
  | _, _, _ => False
/-- A turn of a block that is no cells, from N on. -/
def Off10 (N : Nat) (I : List ByteArray → World → Prop) : Prop := ∀ pre W k o o', I pre W → W.heap[k]? = some o → o.isCells = false → N ≤ k → I pre (W.putObj k o')
theorem setCell_off (W : World) (bc k : Nat) (v : Value) {o : Obj} (h : W.heap[k]? = some o) (hk : k ≠ bc) : (W.setCell ⟨bc, 0, none⟩ v).heap[k]? = some o := (Below.heap_setCell W ⟨bc, 0, none⟩ v k hk).trans h
theorem range_lines {g : Operand} {ps : Array Tmp} {assign body : Code} {Q : Exit → Act → World → Prop} {a : Act} {w : World} (n bc : Nat) (hn : 2 ≤ n) (hbc : bc < w.heap.size)
    (s0 : List UInt8) (hs0 : s0.length ≤ 1048576) (hc : Left10 w bc s0) (hg : a.eval g = .func (.func 51) #[] #[.pointer (some ⟨bc, 0, none⟩)]) (hps : ps.size = 1)
    (I Ix : List ByteArray → World → Prop) (hIp : Off10 w.heap.size I) (hXp : Off10 w.heap.size Ix) (hIa : ∀ pre W o, I pre W → I pre (W.alloc o))
    (hIs : ∀ pre W v, I pre W → I pre (W.setCell ⟨bc, 0, none⟩ v)) (hId : ∀ pre W, I pre W → I pre W.drew) (h0 : I [] w) (a1 : ByteArray → Act)
    (hassign : ∀ l x W (K : Act → World → Prop), K (a1 x) W → assign.wpIn (Fence.wide.inRound l) (n - 1 - 1) Tryz.prog (Exit.then K (fun _ _ _ => False)) { tmps := (ps.zip #[.string x]).foldl (fun t (p, v) => t.setIfInBounds p v) a.tmps, defers := [] } W)
    (hbody : ∀ l pre x W, I pre W → pre ++ [x] <+: (linesL s0).map txt → body.wpIn (Fence.wide.inRound l) (n - 1 - 1) Tryz.prog (linPost bc I Ix (pre ++ [x]) W) (a1 x) W)
    (hdone : ∀ D W, w.heap.size ≤ D → I ((linesL s0).map txt) W → W.heap[D]? = some (.deferred (some [])) → Q .normal { a with defers := { target := .collected D, args := #[] } :: a.defers } W)
    (hstop : ∀ D pre W, w.heap.size ≤ D → pre <+: (linesL s0).map txt → Ix pre W → W.heap[D]? = some (.deferred (some [])) → Code.ret.wpIn Fence.wide n Tryz.prog Q { a with defers := { target := .collected D, args := #[] } :: a.defers } W) :
    (Code.rangeFunc g ps assign body).wpIn Fence.wide n Tryz.prog Q a w := by
  refine wpIn_rangeFunc fun fn hfn => ?_
  let D := w.heap.size
  let R (st : LoopState) (pe : Option Code) : Loop := { state := st, pending := pe, fn, tmps := a.tmps, params := ps, assign, body, defers := D }
  have hen := run_enterLoop_outer (P := Tryz.prog) (w := w) fn a.tmps ps assign body
  have L1 : ((w.alloc (.deferred (some []))).alloc (.loop (R .ready none))).heap[D + 1]? = some (.loop (R .ready none)) := by
    have k := World.alloc_heap_new (w.alloc (.deferred (some []))) (.loop (R .ready none))
    rwa [World.size_alloc] at k
  have K1 : ((w.alloc (.deferred (some []))).alloc (.loop (R .ready none))).heap[D]? = some (.deferred (some [])) := (Below.heap_alloc _ _ _ (by simp [D])).trans (World.alloc_heap_new w _)
  have I1 : I [] ((w.alloc (.deferred (some []))).alloc (.loop (R .ready none))) := hIa _ _ _ (hIa _ _ _ h0)
  have C1 : Left10 ((w.alloc (.deferred (some []))).alloc (.loop (R .ready none))) bc s0 := ((Below.heap_alloc _ _ _ (by simp; omega)).trans (Below.heap_alloc w _ _ hbc)).trans hc
  refine ⟨D + 1, [{ target := .collected D, args := #[] }], ((w.alloc (.deferred (some []))).alloc (.loop (R .ready none))), { target := .fn (.func 51) #[.pointer (some ⟨bc, 0, none⟩)], args := #[.func (.yield (D + 1)) #[] #[]] }, ((w.alloc (.deferred (some []))).alloc (.loop (R .ready none))), 51, #[.func (.yield (D + 1)) #[] #[]] ++ #[.pointer (some ⟨bc, 0, none⟩)], ((w.alloc (.deferred (some []))).alloc (.loop (R .ready none))), hen, ?_, fun _ _ => trivial, ?_, fun _ => by omega, ?_⟩
  · simp only [resolve, hg]
    simp [go_sem]
  · simp [invoke, go_sem]
  · refine (lines1_in (n - 1) (D + 1) bc s0 hs0
      (fun pre W => I pre W ∧ W.heap[D + 1]? = some (.loop (R .ready none)) ∧ W.heap[D]? = some (.deferred (some [])))
      (fun pre W => Ix pre W ∧ W.heap[D + 1]? = some (.loop (R .done (some .ret))) ∧ W.heap[D]? = some (.deferred (some [])))
      (by omega) (fun pre W v h => ⟨hIs _ _ _ h.1, setCell_off _ _ _ _ h.2.1 (by simp only [D]; omega), setCell_off _ _ _ _ h.2.2 (by simp only [D]; omega)⟩) (fun pre W h => ⟨hId _ _ h.1, h.2.1, h.2.2⟩) ?_ _ C1 ⟨I1, L1, K1⟩).mono ?_
    · rintro pre x W ⟨hi, hl, hk⟩ hpre
      have hlt := (Array.getElem?_eq_some_iff.1 hl).1
      have hyield := run_yield (P := Tryz.prog) (args := #[.string x]) hl (by show 1 = ps.size; omega)
      refine ⟨fn, _, assign, body, hyield, roundIn_of_wpIn hfn (hassign _ x W _ ⟨_, run_beginRound hl rfl, ?_⟩)⟩
      have B1 : (W.putObj (D + 1) (.loop (R .busy none))).heap[D + 1]? = some (.loop (R .busy none)) := World.putObj_heap_same hlt
      have B2 : (W.putObj (D + 1) (.loop (R .busy none))).heap[D]? = some (.deferred (some [])) := (World.putObj_heap_other (by omega)).trans hk
      have B3 : (W.putObj (D + 1) (.loop (R .busy none))).heap[bc]? = W.heap[bc]? := World.putObj_heap_other (by simp only [D]; omega)
      refine wpIn_mono (hbody _ pre x _ (hIp _ _ _ _ _ hi hl rfl (by simp only [D]; omega)) hpre) ?_
      intro e a3 V hp
      match e, hp with
      | .normal, ⟨hk3, hb3, hi3⟩ =>
        have l3 := hk3.same _ _ B1 rfl
        have d3 := hk3.same _ _ B2 rfl
        refine ⟨_, _, run_endRound (P := Tryz.prog) none l3, .inl ⟨rfl, ⟨hIp _ _ _ _ _ hi3 l3 rfl (by simp only [D]; omega), World.putObj_heap_same (Array.getElem?_eq_some_iff.1 l3).1, (World.putObj_heap_other (by omega)).trans d3⟩, ?_⟩⟩
        exact (World.putObj_heap_other (by simp only [D]; omega)).trans (hb3.trans B3)
      | .ret, ⟨hk3, hi3⟩ =>
        have l3 := hk3.same _ _ B1 rfl
        have d3 := hk3.same _ _ B2 rfl
        exact ⟨_, _, run_endRound (P := Tryz.prog) (some .ret) l3, .inr ⟨rfl, hXp _ _ _ _ _ hi3 l3 rfl (by simp only [D]; omega), World.putObj_heap_same (Array.getElem?_eq_some_iff.1 l3).1, (World.putObj_heap_other (by omega)).trans d3⟩⟩
    · rintro e V ⟨⟨v, rfl⟩, (⟨hi, hl, hk⟩ | ⟨pre, hpre, hi, hl, hk⟩)⟩
      · exact ⟨none, _, run_endLoop (P := Tryz.prog) hl (by simp [R]), hdone _ _ (Nat.le_refl _) (hIp _ _ _ _ _ hi hl rfl (by simp only [D]; omega)) ((World.putObj_heap_other (by omega)).trans hk)⟩
      · exact ⟨some .ret, _, run_endLoop (P := Tryz.prog) hl (by simp [R]), hstop _ _ _ (Nat.le_refl _) hpre (hXp _ _ _ _ _ hi hl rfl (by simp only [D]; omega)) ((World.putObj_heap_other (by omega)).trans hk)⟩
end Go.Proofs.YthmhaflkkigenaaGreatDoor

/- strings.Lines. -/
namespace Go.Proofs.YthmhaflkkigenaaGreatDoor
open Go.ChangeShapes Go.WideShapes Go.ChangeAt Go.RowKit
set_option linter.unusedVariables false
theorem slines_any (s : ByteArray) (w : World) : Calls Tryz.prog 37 #[.string s] w fun e w' => e = .returned (.func (.func 51) #[] #[.pointer (some ⟨w.heap.size, 0, none⟩)]) ∧ w' = w.alloc (.cells #[.string s] 9) := by
  go_enter Tryz.func37, Tryz.ntmps37
  go_wp2
  go_ret
  exact ⟨rfl, rfl⟩
end Go.Proofs.YthmhaflkkigenaaGreatDoor
