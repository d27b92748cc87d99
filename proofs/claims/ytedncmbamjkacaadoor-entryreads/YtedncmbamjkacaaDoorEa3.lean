/- Texts that the proof leans on, one behind the other: LiA LyA LyB LyC KpcA EnJ EnK RgR EnL CutW CutJ RTx EnM EnN SamB SbA EnO TpO EnR -/
import Derived.Test.YtedncmbamjkacaaDoorEa2
import Derived.Lib.Bytealg
import Derived.Lib.BytesEntry
import Derived.Lib.Walk
import Derived.WalkKit
import Derived.RangeFuncNested
import Derived.RangeFuncBound
import Derived.RangeFuncCalls
import Derived.RangeFuncLeaves
import Derived.Shelf.Abstract
import Derived.Shelf.RegionOpen
import Derived.OwnWalkIn
import Derived.TacticsInMore
import Derived.LoopNIn
import Derived.LoopIn
import Derived.Maps.AppendAt
import Derived.OrdersIn
import Derived.Sort.QuietThIn
import Derived.Sort.BigQuietIn
import Derived.Lib.SplitLaws
import Derived.Lib.Join
import Derived.Lib.SmallJoins
import Derived.Lib.ItoaNum
import Derived.Laws.StructEq
import Derived.ProofKit
import Derived.OpenShut
import Derived.Deep.Slices
import Derived.Test.YtedncmbamjkacaaDoorRows
import Derived.ChangeOld
import Derived.ChangeSlices
/- The lines of a text, each with its end, plain. -/
namespace Go.Proofs.YtedncmbamjkacaaDoor
open Go.RowKit
set_option linter.unusedVariables false

def lnA : List UInt8 → List UInt8 → List (List UInt8)
  | acc, [] => if acc = [] then [] else [acc]
  | acc, b :: l => if b = 10 then (acc ++ [b]) :: lnA [] l else lnA (acc ++ [b]) l
/-- The lines. -/
def linesL (l : List UInt8) : List (List UInt8) := lnA [] l
theorem lnA_hit : ∀ (l acc : List UInt8) (i : Nat), Lib.indexByte l 10 = i → lnA acc l = (acc ++ l.take (i + 1)) :: linesL (l.drop (i + 1))
  | [], acc, i, h => by unfold Lib.indexByte at h; omega
  | b :: l, acc, i, h => by
    unfold Lib.indexByte at h
    by_cases hb : b = 10
    · subst hb
      rw [if_pos (by rfl)] at h
      have : i = 0 := by omega
      subst this
      unfold lnA
      rw [if_pos rfl]
      rfl
    · rw [if_neg (by simpa using hb)] at h
      by_cases h2 : Lib.indexByte l 10 = -1
      · rw [if_pos (by simpa using h2)] at h
        omega
      · rw [if_neg (by simpa using h2)] at h
        have hge := Lib.indexByte_ge l 10
        obtain ⟨j, hj⟩ : ∃ j : Nat, Lib.indexByte l 10 = j := ⟨(Lib.indexByte l 10).toNat, by omega⟩
        have : i = j + 1 := by omega
        subst this
        unfold lnA
        rw [if_neg hb, lnA_hit l (acc ++ [b]) j hj]
        simp
theorem lnA_miss : ∀ (l acc : List UInt8), Lib.indexByte l 10 = -1 → acc ++ l ≠ [] → lnA acc l = [acc ++ l]
  | [], acc, _, h => by
    unfold lnA
    rw [List.append_nil] at h
    rw [if_neg h, List.append_nil]
  | b :: l, acc, h, hn => by
    unfold Lib.indexByte at h
    by_cases hb : b = 10
    · subst hb
      rw [if_pos (by rfl)] at h
      exact absurd h (by decide)
    · rw [if_neg (by simpa using hb)] at h
      have h2 : Lib.indexByte l 10 = -1 := by
        by_cases h2 : Lib.indexByte l 10 = -1
        · exact h2
        · rw [if_neg (by simpa using h2)] at h
          have := Lib.indexByte_ge l 10
          omega
      unfold lnA
      rw [if_neg hb, lnA_miss l (acc ++ [b]) h2 (by simp)]
      simp
theorem lines_hit (l : List UInt8) (i : Nat) (h : Lib.indexByte l 10 = i) : linesL l = l.take (i + 1) :: linesL (l.drop (i + 1)) := by
  have := lnA_hit l [] i h
  rwa [List.nil_append] at this
theorem lines_miss (l : List UInt8) (h : Lib.indexByte l 10 = -1) (hn : l ≠ []) : linesL l = [l] := by
  have := lnA_miss l [] h (by simpa using hn)
  rwa [List.nil_append] at this
theorem lines_nil : linesL [] = [] := rfl
theorem idx_lt (c : UInt8) : ∀ (l : List UInt8) (i : Nat), Lib.indexByte l c = i → i < l.length
  | [], i, h => by unfold Lib.indexByte at h; omega
  | b :: l, i, h => by
    unfold Lib.indexByte at h
    split at h
    · simp; omega
    · split at h
      · omega
      · have hge := Lib.indexByte_ge l c
        have h2 : ¬ Lib.indexByte l c = -1 := by simpa using (by assumption : ¬ (Lib.indexByte l c == -1) = true)
        obtain ⟨j, hj⟩ : ∃ j : Nat, Lib.indexByte l c = j := ⟨(Lib.indexByte l c).toNat, by omega⟩
        have := idx_lt c l j hj
        simp; omega
end Go.Proofs.YtedncmbamjkacaaDoor

/- bytes.IndexByte of bytes that lie in memory. -/
namespace Go.Proofs.YtedncmbamjkacaaDoor
open Go.RowKit
set_option linter.unusedVariables false

theorem bytesOf_map (r : List UInt8) : Lib.bytesOf (r.map fun b => (b.toNat : Int)) = r := by
  unfold Lib.bytesOf
  rw [List.map_map]
  conv => rhs; rw [← List.map_id r]
  refine List.map_congr_left fun b _ => ?_
  show ((b.toNat : Int).toNat).toUInt8 = b
  simp
set_option maxRecDepth 100000 in
set_option maxHeartbeats 1000000 in
theorem bindexb_any (r : List UInt8) (k : Nat) (a : Option Addr) (n c : Nat) (w : World) (hS : Src w k (.slice a n c) r) (hp : 0 < r.length) :
    Calls Tryd.prog 45 #[.slice a n c, .int .u8 10] w fun e w' => e = .returned (.int .i64 (Lib.indexByte r 10)) ∧ w' = w := by
  obtain ⟨a', c', e, h1, h2, h3⟩ := hS
  obtain ⟨rfl, rfl, rfl⟩ := slice_inj e
  obtain ⟨off, rfl, hc⟩ := h3 hp
  have hx : (r.map fun b => (b.toNat : Int)).length = r.length := List.length_map _
  have hcell : ∀ i, i < r.length → w.cell? ⟨k, off + i, none⟩ = some (.int .u8 ((r.map fun b => (b.toNat : Int)).getD i 0)) := fun i hi => by
    rw [hc i hi]
    unfold bv
    rw [List.getD, List.getElem?_map, List.getElem?_eq_getElem hi]; rfl
  have hrun := Lib.run_indexByteSlice (P := Tryd.prog) w k off r.length c (r.map fun b => (b.toNat : Int)) hx hcell 10
  rw [bytesOf_map] at hrun
  clear hcell hx hc h3 h1 h2
  go_enter Tryd.func45, Tryd.ntmps45
  go_wp2
  rw [run_callFunc_extern Tryd.func60 (by kernel_rfl) (by kernel_rfl) (by kernel_rfl) (e := Extern.BytealgIndexByte.indexByte) (by kernel_rfl), hrun]
  simp only [Result.andThen]
  rw [Oper.upon_value]
  go_wp2
  go_ret
  exact ⟨rfl, rfl⟩
end Go.Proofs.YtedncmbamjkacaaDoor

/- bytes.Lines: its iterator, which keeps what is left in a cell of its own. -/
namespace Go.Proofs.YtedncmbamjkacaaDoor
open Go.RowKit Go.Shelf
attribute [local go_sem] Oper.semAt_some
set_option linter.unusedVariables false

/-- What is left lies in block bc: a slice of bytes of block k. -/
def LeftY (w0 W : World) (bc k : Nat) (r : List UInt8) : Prop := ∃ a c, W.heap[bc]? = some (.cells #[.slice a r.length c] 25) ∧ Src w0 k (.slice a r.length c) r
def lenY (bc : Nat) (W : World) : Nat := match W.cell? ⟨bc, 0, none⟩ with | some (.slice _ n _) => n | _ => 0
theorem lenY_at {w0 W : World} {bc k : Nat} {r : List UInt8} (h : LeftY w0 W bc k r) : lenY bc W = r.length := by
  obtain ⟨a, c, h, _⟩ := h
  unfold lenY
  rw [show W.cell? ⟨bc, 0, none⟩ = some (.slice a r.length c) from ring_cell h rfl]
theorem Src.cap {w : World} {k : Nat} {a : Option Addr} {n c m : Nat} {r : List UInt8} (h : Src w k (.slice a n c) r) (hm : n ≤ m) (hc : m ≤ c) : Src w k (.slice a n m) r := by
  obtain ⟨a', c', e, h1, h2, h3⟩ := h
  obtain ⟨rfl, rfl, rfl⟩ := slice_inj e
  exact ⟨a, m, rfl, hm, by omega, h3⟩
theorem src_nil (w : World) (k : Nat) : Src w k (.slice none 0 0) [] := ⟨none, 0, rfl, Nat.le_refl _, Nat.zero_le _, fun h => absurd h (Nat.lt_irrefl _)⟩
set_option maxRecDepth 100000 in
set_option maxHeartbeats 2000000 in
theorem blines1_in (w0 : World) (n l bc k : Nat) (s0 : List UInt8) (hs0 : s0.length ≤ 4294967296) (J Jx : List (List UInt8) → World → Prop) (hn : 1 ≤ n)
    (hset : ∀ pre W v, J pre W → J pre (W.setCell ⟨bc, 0, none⟩ v)) (hdrew : ∀ pre W, J pre W → J pre W.drew) (hkb : ∀ pre W, J pre W → W.heap[k]? = w0.heap[k]?)
    (hY : ∀ pre x sa W1, J pre W1 → Src w0 k (.slice sa x.length x.length) x → 0 < x.length → pre ++ [x] <+: linesL s0 → YieldAt Fence.wide (n - 1) Tryd.prog l #[.slice sa x.length x.length] W1 fun e W' =>
      (e = .returned (.bool true) ∧ J (pre ++ [x]) W' ∧ W'.heap[bc]? = W1.heap[bc]?) ∨ (e = .returned (.bool false) ∧ Jx (pre ++ [x]) W'))
    (W : World) (hc : LeftY w0 W bc k s0) (h0 : J [] W) :
    CallsIn Fence.wide n Tryd.prog 44 #[.func (.yield l) #[] #[], .pointer (some ⟨bc, 0, none⟩)] W fun e W' => (∃ v, e = .returned v) ∧
      (J (linesL s0) W' ∨ (∃ pre, pre <+: linesL s0 ∧ Jx pre W')) := by
  refine callsIn_of_wp Tryd.func44 rfl trivial ?_ rfl
  simp only [Tryd.ntmps44, List.size_toArray, List.length_cons, List.length_nil, Nat.reduceAdd, Nat.reduceSub, Array.replicate_succ, Array.replicate_zero, List.push_toArray, List.append_toArray, List.nil_append, List.cons_append]
  gi_wp2
  gi_loopw [] (fun wr => ∃ (pre : List (List UInt8)) (r : List UInt8), Hid (linesL s0 = pre ++ linesL r) ∧ r.length ≤ 4294967296 ∧ Hid (LeftY w0 wr bc k r) ∧ Hid (J pre wr)) (fun wr => lenY bc wr)
  case atStart => exact ⟨[], s0, rfl, hs0, hc, h0⟩
  case round =>
    obtain ⟨pre, r, hL, hr, hc1, hJ⟩ := hrel
    clear hc h0
    have hmz : lenY bc wr = r.length := lenY_at hc1.out
    obtain ⟨a, c, hblk, hS⟩ := hc1.out
    have hc2 : wr.cell? ⟨bc, 0, none⟩ = some (.slice a r.length c) := ring_cell hblk rfl
    have hz2 : wr.frozen? ⟨bc, 0, none⟩ = false := ring_z hblk
    have hcap := hS.len
    rcases Nat.eq_zero_or_pos r.length with z | z
    · have hr0 : r = [] := List.eq_nil_of_length_eq_zero z
      rw [z] at hc2
      have HJ0 : Hid (J (linesL s0) wr) := by rw [Hid, hL.out, hr0, lines_nil, List.append_nil]; exact hJ.out
      clear z hr0 hmz hS hblk hcap hc1 hL
      gi_wp2
      refine bodyPost_end (results_none rfl _ _ _) rfl ?_
      exact ⟨⟨_, rfl⟩, .inl HJ0.out⟩
    · have hp : (0 : Int) < (r.length : Int) := by omega
      have HI : Hid (Calls Tryd.prog 45 #[.slice a r.length c, .int .u8 10] wr fun e w' => e = .returned (.int .i64 (Lib.indexByte r 10)) ∧ w' = wr) := bindexb_any r k a r.length c wr (hS.frame (hkb _ _ hJ.out)) z
      have HS : Hid (Src w0 k (.slice a r.length c) r) := hS
      obtain ⟨_, hlc, hcm⟩ := hcap
      unfold maxLen at hcm
      have HMZ : Hid (lenY bc wr = r.length) := hmz
      clear hS hmz hc1
      by_cases hh : Lib.indexByte r 10 = -1
      · rw [hh] at HI
        have hne : r ≠ [] := fun e => by rw [e] at z; exact absurd z (by decide)
        have hL1 : Hid (linesL s0 = pre ++ [r]) := by rw [Hid, hL.out, lines_miss r hh hne]
        have hcc : Hid (LeftY w0 (wr.setCell ⟨bc, 0, none⟩ (.slice none 0 0)) bc k []) := ⟨none, 0, by rw [ring_set hblk]; rfl, src_nil _ _⟩
        obtain ⟨fn, tmps, assign, body, hy, hR⟩ := hY pre r a (wr.setCell ⟨bc, 0, none⟩ (.slice none 0 0)) (hset _ _ _ hJ.out) (HS.out.cap (Nat.le_refl _) hlc) z (by rw [hL1.out]; exact List.prefix_rfl)
        clear hne hh hJ hL hblk
        gi_wp2_with (refine ⟨trivial, ?_⟩; gi_at_call 45; refine (callsIn_wide.2 HI.out).mono ?_; rintro e w' ⟨rfl, rfl⟩)
        refine hR.mono ?_
        rintro e W3 (⟨rfl, hJ3, hk3⟩ | ⟨rfl, hJx3⟩)
        · have hc3 : Hid (LeftY w0 W3 bc k []) := by
            obtain ⟨a3, c3, h3, h4⟩ := hcc.out
            exact ⟨a3, c3, hk3.trans h3, h4⟩
          clear hk3 hR hy
          gi_wp2
          go_roundw
          case rel => exact ⟨pre ++ [r], [], by rw [Hid, hL1.out, lines_nil, List.append_nil], by decide, hc3, hJ3⟩
          case measure => rw [lenY_at hc3.out]; have := HMZ.out; simp only [List.length_nil]; omega
        · clear hR hy
          gi_wp2
          refine bodyPost_ret (results_none rfl _ _ _) rfl ?_
          exact ⟨⟨_, rfl⟩, .inr ⟨pre ++ [r], by rw [hL1.out]; exact List.prefix_rfl, hJx3⟩⟩
      · have hge := Lib.indexByte_ge r 10
        obtain ⟨i, hi⟩ : ∃ i : Nat, Lib.indexByte r 10 = i := ⟨(Lib.indexByte r 10).toNat, by omega⟩
        have hil := idx_lt 10 r i hi
        rw [hi] at HI
        have hL1 : Hid (linesL s0 = pre ++ [r.take (i + 1)] ++ linesL (r.drop (i + 1))) := by rw [Hid, hL.out, lines_hit r i hi, List.append_assoc]; rfl
        have hiz : (i : Int) + 1 ≤ (r.length : Int) := by omega
        have hic : (i : Int) + 1 ≤ (c : Int) := by omega
        have htl : (r.take (i + 1)).length = i + 1 := by rw [List.length_take]; omega
        have HSX : Hid (Src w0 k (.slice a (i + 1) (i + 1)) (r.take (i + 1))) := (HS.out.take (m := i + 1) (by omega)).cap (Nat.le_refl _) (by omega)
        obtain ⟨off, rfl, _⟩ : ∃ off, a = some ⟨k, off, none⟩ ∧ True := by
          obtain ⟨a', c', e, _, _, h3⟩ := HS.out
          obtain ⟨rfl, _, _⟩ := slice_inj e
          obtain ⟨off, h, _⟩ := h3 z
          exact ⟨off, h, trivial⟩
        clear hge hh hi hL
        by_cases hci : c = i + 1
        · subst hci
          have hrl : r.length = i + 1 := by omega
          have hdr : r.drop (i + 1) = [] := List.drop_eq_nil_of_le (by omega)
          rw [hrl] at hc2 HI hblk
          have hcc : Hid (LeftY w0 (wr.setCell ⟨bc, 0, none⟩ (.slice (some ⟨k, off, none⟩) 0 0)) bc k []) := ⟨some ⟨k, off, none⟩, 0, by rw [ring_set hblk]; rfl, ⟨_, 0, rfl, Nat.le_refl _, Nat.zero_le _, fun h => absurd h (Nat.lt_irrefl _)⟩⟩
          obtain ⟨fn, tmps, assign, body, hy, hR⟩ := hY pre (r.take (i + 1)) (some ⟨k, off, none⟩) (wr.setCell ⟨bc, 0, none⟩ (.slice (some ⟨k, off, none⟩) 0 0)).drew (hdrew _ _ (hset _ _ _ hJ.out)) (by rw [htl]; exact HSX.out) (by omega) (by rw [hL1.out]; exact ⟨_, rfl⟩)
          rw [htl] at hy
          have HRL : Hid (r.length = i + 1) := hrl
          have HDR : Hid (r.drop (i + 1) = []) := hdr
          have hpi : (0 : Int) < (i : Int) + 1 := by omega
          have hpj : (i : Int) + 1 ≤ 4294967296 := by omega
          clear hblk hrl hdr hp hiz hic hlc hcm hil htl hr z
          gi_wp2_with (refine ⟨trivial, ?_⟩; gi_at_call 45; refine (callsIn_wide.2 HI.out).mono ?_; rintro e w' ⟨rfl, rfl⟩)
          gi_region
          gi_wp2
          refine hR.mono ?_
          rintro e W3 (⟨rfl, hJ3, hk3⟩ | ⟨rfl, hJx3⟩)
          · have hc3 : Hid (LeftY w0 W3 bc k []) := by
              obtain ⟨a3, c3, h3, h4⟩ := hcc.out
              exact ⟨a3, c3, hk3.trans h3, h4⟩
            clear hk3 hR hy
            gi_wp2
            go_roundw
            case rel => exact ⟨pre ++ [r.take (i + 1)], [], by rw [Hid, hL1.out, HDR.out], by decide, hc3, hJ3⟩
            case measure => rw [lenY_at hc3.out]; have := HMZ.out; have := HRL.out; simp only [List.length_nil]; omega
          · clear hR hy
            gi_wp2
            refine bodyPost_ret (results_none rfl _ _ _) rfl ?_
            exact ⟨⟨_, rfl⟩, .inr ⟨pre ++ [r.take (i + 1)], by rw [hL1.out]; exact ⟨_, rfl⟩, hJx3⟩⟩
        · have hci' := hci
          have hcc : Hid (LeftY w0 (wr.setCell ⟨bc, 0, none⟩ (.slice (some ⟨k, off + (i + 1), none⟩) (r.length - (i + 1)) (c - (i + 1)))) bc k (r.drop (i + 1))) := by
            refine ⟨(some ⟨k, off + (i + 1), none⟩), c - (i + 1), by rw [ring_set hblk, List.length_drop]; rfl, ?_⟩
            have q := HS.out.cut (m := i + 1) (a' := (some ⟨k, off + (i + 1), none⟩)) (by omega) (fun h => by simp [addr_add])
            rw [← List.length_drop] at q
            exact q
          obtain ⟨fn, tmps, assign, body, hy, hR⟩ := hY pre (r.take (i + 1)) (some ⟨k, off, none⟩) (wr.setCell ⟨bc, 0, none⟩ (.slice (some ⟨k, off + (i + 1), none⟩) (r.length - (i + 1)) (c - (i + 1)))).drew (hdrew _ _ (hset _ _ _ hJ.out)) (by rw [htl]; exact HSX.out) (by omega) (by rw [hL1.out]; exact ⟨_, rfl⟩)
          rw [htl] at hy
          clear hblk
          gi_wp2_with (refine ⟨trivial, ?_⟩; gi_at_call 45; refine (callsIn_wide.2 HI.out).mono ?_; rintro e w' ⟨rfl, rfl⟩)
          gi_region
          gi_wp2
          refine hR.mono ?_
          rintro e W3 (⟨rfl, hJ3, hk3⟩ | ⟨rfl, hJx3⟩)
          · have hc3 : Hid (LeftY w0 W3 bc k (r.drop (i + 1))) := by
              obtain ⟨a3, c3, h3, h4⟩ := hcc.out
              exact ⟨a3, c3, hk3.trans h3, h4⟩
            clear hk3 hR hy
            gi_wp2
            go_roundw
            case rel => exact ⟨pre ++ [r.take (i + 1)], r.drop (i + 1), hL1, by rw [List.length_drop]; omega, hc3, hJ3⟩
            case measure => rw [lenY_at hc3.out, List.length_drop]; have := HMZ.out; omega
          · clear hR hy
            gi_wp2
            refine bodyPost_ret (results_none rfl _ _ _) rfl ?_
            exact ⟨⟨_, rfl⟩, .inr ⟨pre ++ [r.take (i + 1)], by rw [hL1.out]; exact ⟨_, rfl⟩, hJx3⟩⟩
end Go.Proofs.YtedncmbamjkacaaDoor

/- A loop over bytes.Lines: the body's own walk is asked, and what follows. -/
namespace Go.Proofs.YtedncmbamjkacaaDoor
open Go.RowKit Go.Shelf
set_option linter.unusedVariables false

/-- How a round's body may be left. -/
def linPostY (bc : Nat) (I Ix : List (List UInt8) → World → Prop) (xs : List (List UInt8)) (W : World) : Exit → Act → World → Prop
  | .normal, _, V => KeepsOthers W V ∧ V.heap[bc]? = W.heap[bc]? ∧ I xs V
  | .ret, _, V => KeepsOthers W V ∧ Ix xs V
  | _, _, _ => False
/-- A turn of a block that is no cells, from N on. -/
def OffY (N : Nat) (I : List (List UInt8) → World → Prop) : Prop := ∀ pre W k o o', I pre W → W.heap[k]? = some o → o.isCells = false → N ≤ k → I pre (W.putObj k o')
theorem setCell_offY (W : World) (bc k : Nat) (v : Value) {o : Obj} (h : W.heap[k]? = some o) (hk : k ≠ bc) : (W.setCell ⟨bc, 0, none⟩ v).heap[k]? = some o := (Below.heap_setCell W ⟨bc, 0, none⟩ v k hk).trans h
theorem range_blines {g : Operand} {ps : Array Tmp} {assign body : Code} {Q : Exit → Act → World → Prop} {a : Act} {w : World} (w0 : World) (n bc k : Nat) (hn : 2 ≤ n) (hbc : bc < w.heap.size)
    (s0 : List UInt8) (hs0 : s0.length ≤ 4294967296) (hc : LeftY w0 w bc k s0) (hg : a.eval g = .func (.func 44) #[] #[.pointer (some ⟨bc, 0, none⟩)]) (hps : ps.size = 1)
    (I Ix : List (List UInt8) → World → Prop) (hIp : OffY w.heap.size I) (hXp : OffY w.heap.size Ix) (hIa : ∀ pre W o, I pre W → I pre (W.alloc o))
    (hIs : ∀ pre W v, I pre W → I pre (W.setCell ⟨bc, 0, none⟩ v)) (hId : ∀ pre W, I pre W → I pre W.drew) (h0 : I [] w) (hIk : ∀ pre W, I pre W → W.heap[k]? = w0.heap[k]?) (a1 : Value → Act)
    (hassign : ∀ l x W (K : Act → World → Prop), K (a1 x) W → assign.wpIn (Fence.wide.inRound l) (n - 1 - 1) Tryd.prog (Exit.then K (fun _ _ _ => False)) { tmps := (ps.zip #[x]).foldl (fun t (p, v) => t.setIfInBounds p v) a.tmps, defers := [] } W)
    (hbody : ∀ l pre x sa W, I pre W → Src w0 k (.slice sa x.length x.length) x → 0 < x.length → pre ++ [x] <+: linesL s0 → body.wpIn (Fence.wide.inRound l) (n - 1 - 1) Tryd.prog (linPostY bc I Ix (pre ++ [x]) W) (a1 (.slice sa x.length x.length)) W)
    (hdone : ∀ D W, w.heap.size ≤ D → I (linesL s0) W → W.heap[D]? = some (.deferred (some [])) → Q .normal { a with defers := { target := .collected D, args := #[] } :: a.defers } W)
    (hstop : ∀ D pre W, w.heap.size ≤ D → pre <+: linesL s0 → Ix pre W → W.heap[D]? = some (.deferred (some [])) → Code.ret.wpIn Fence.wide n Tryd.prog Q { a with defers := { target := .collected D, args := #[] } :: a.defers } W) :
    (Code.rangeFunc g ps assign body).wpIn Fence.wide n Tryd.prog Q a w := by
  refine wpIn_rangeFunc fun fn hfn => ?_
  let D := w.heap.size
  let R (st : LoopState) (pe : Option Code) : Loop := { state := st, pending := pe, fn, tmps := a.tmps, params := ps, assign, body, defers := D }
  have hen := run_enterLoop_outer (P := Tryd.prog) (w := w) fn a.tmps ps assign body
  have L1 : ((w.alloc (.deferred (some []))).alloc (.loop (R .ready none))).heap[D + 1]? = some (.loop (R .ready none)) := by
    have k := World.alloc_heap_new (w.alloc (.deferred (some []))) (.loop (R .ready none))
    rwa [World.size_alloc] at k
  have K1 : ((w.alloc (.deferred (some []))).alloc (.loop (R .ready none))).heap[D]? = some (.deferred (some [])) := (Below.heap_alloc _ _ _ (by simp [D])).trans (World.alloc_heap_new w _)
  have I1 : I [] ((w.alloc (.deferred (some []))).alloc (.loop (R .ready none))) := hIa _ _ _ (hIa _ _ _ h0)
  have C1 : LeftY w0 ((w.alloc (.deferred (some []))).alloc (.loop (R .ready none))) bc k s0 := by
    obtain ⟨ca, cc, h1, h2⟩ := hc
    exact ⟨ca, cc, ((Below.heap_alloc _ _ _ (by simp; omega)).trans (Below.heap_alloc w _ _ hbc)).trans h1, h2⟩
  refine ⟨D + 1, [{ target := .collected D, args := #[] }], ((w.alloc (.deferred (some []))).alloc (.loop (R .ready none))), { target := .fn (.func 44) #[.pointer (some ⟨bc, 0, none⟩)], args := #[.func (.yield (D + 1)) #[] #[]] }, ((w.alloc (.deferred (some []))).alloc (.loop (R .ready none))), 44, #[.func (.yield (D + 1)) #[] #[]] ++ #[.pointer (some ⟨bc, 0, none⟩)], ((w.alloc (.deferred (some []))).alloc (.loop (R .ready none))), hen, ?_, fun _ _ => trivial, ?_, fun _ => by omega, ?_⟩
  · simp only [resolve, hg]
    simp [go_sem]
  · simp [invoke, go_sem]
  · refine (blines1_in w0 (n - 1) (D + 1) bc k s0 hs0
      (fun pre W => I pre W ∧ W.heap[D + 1]? = some (.loop (R .ready none)) ∧ W.heap[D]? = some (.deferred (some [])))
      (fun pre W => Ix pre W ∧ W.heap[D + 1]? = some (.loop (R .done (some .ret))) ∧ W.heap[D]? = some (.deferred (some [])))
      (by omega) (fun pre W v h => ⟨hIs _ _ _ h.1, setCell_offY _ _ _ _ h.2.1 (by simp only [D]; omega), setCell_offY _ _ _ _ h.2.2 (by simp only [D]; omega)⟩) (fun pre W h => ⟨hId _ _ h.1, h.2.1, h.2.2⟩) (fun pre W h => hIk _ _ h.1) ?_ _ C1 ⟨I1, L1, K1⟩).mono ?_
    · rintro pre x sa W ⟨hi, hl, hk⟩ hSx hxp hpre
      have hlt := (Array.getElem?_eq_some_iff.1 hl).1
      have hyield := run_yield (P := Tryd.prog) (args := #[.slice sa x.length x.length]) hl (by show 1 = ps.size; omega)
      refine ⟨fn, _, assign, body, hyield, roundIn_of_wpIn hfn (hassign _ (.slice sa x.length x.length) W _ ⟨_, run_beginRound hl rfl, ?_⟩)⟩
      have B1 : (W.putObj (D + 1) (.loop (R .busy none))).heap[D + 1]? = some (.loop (R .busy none)) := World.putObj_heap_same hlt
      have B2 : (W.putObj (D + 1) (.loop (R .busy none))).heap[D]? = some (.deferred (some [])) := (World.putObj_heap_other (by omega)).trans hk
      have B3 : (W.putObj (D + 1) (.loop (R .busy none))).heap[bc]? = W.heap[bc]? := World.putObj_heap_other (by simp only [D]; omega)
      refine wpIn_mono (hbody _ pre x sa _ (hIp _ _ _ _ _ hi hl rfl (by simp only [D]; omega)) hSx hxp hpre) ?_
      intro e a3 V hp
      match e, hp with
      | .normal, ⟨hk3, hb3, hi3⟩ =>
        have l3 := hk3.same _ _ B1 rfl
        have d3 := hk3.same _ _ B2 rfl
        refine ⟨_, _, run_endRound (P := Tryd.prog) none l3, .inl ⟨rfl, ⟨hIp _ _ _ _ _ hi3 l3 rfl (by simp only [D]; omega), World.putObj_heap_same (Array.getElem?_eq_some_iff.1 l3).1, (World.putObj_heap_other (by omega)).trans d3⟩, ?_⟩⟩
        exact (World.putObj_heap_other (by simp only [D]; omega)).trans (hb3.trans B3)
      | .ret, ⟨hk3, hi3⟩ =>
        have l3 := hk3.same _ _ B1 rfl
        have d3 := hk3.same _ _ B2 rfl
        exact ⟨_, _, run_endRound (P := Tryd.prog) (some .ret) l3, .inr ⟨rfl, hXp _ _ _ _ _ hi3 l3 rfl (by simp only [D]; omega), World.putObj_heap_same (Array.getElem?_eq_some_iff.1 l3).1, (World.putObj_heap_other (by omega)).trans d3⟩⟩
    · rintro e V ⟨⟨v, rfl⟩, (⟨hi, hl, hk⟩ | ⟨pre, hpre, hi, hl, hk⟩)⟩
      · exact ⟨none, _, run_endLoop (P := Tryd.prog) hl (by simp [R]), hdone _ _ (Nat.le_refl _) (hIp _ _ _ _ _ hi hl rfl (by simp only [D]; omega)) ((World.putObj_heap_other (by omega)).trans hk)⟩
      · exact ⟨some .ret, _, run_endLoop (P := Tryd.prog) hl (by simp [R]), hstop _ _ _ (Nat.le_refl _) hpre (hXp _ _ _ _ _ hi hl rfl (by simp only [D]; omega)) ((World.putObj_heap_other (by omega)).trans hk)⟩
end Go.Proofs.YtedncmbamjkacaaDoor

/- What is kept while a loop over an iterator turns its own blocks. -/
namespace Go.Proofs.YtedncmbamjkacaaDoor
open Go.RowKit
set_option linter.unusedVariables false

structure KpC (N : Nat) (W V : World) : Prop where
  size : W.heap.size ≤ V.heap.size
  same : ∀ k o, N ≤ k → W.heap[k]? = some o → o.isCells = true → V.heap[k]? = some o
theorem KpC.alloc (N : Nat) (W : World) (o : Obj) : KpC N W (W.alloc o) := ⟨by simp, fun k o' _ h _ => (Below.heap_alloc W o k (Array.getElem?_eq_some_iff.1 h).1).trans h⟩
theorem KpC.set {N : Nat} (W : World) (a : Addr) (v : Value) (h : a.block < N) : KpC N W (W.setCell a v) := ⟨(KeepsOthers.setCell W a v).size, fun k o hk h' _ => (Below.heap_setCell W a v k (by omega)).trans h'⟩
theorem KpC.drew (N : Nat) (W : World) : KpC N W W.drew := ⟨Nat.le_refl _, fun k o _ h _ => h⟩
theorem KpC.put {N : Nat} (W : World) (k : Nat) (o o' : Obj) (h : W.heap[k]? = some o) (ho : o.isCells = false) : KpC N W (W.putObj k o') := ⟨by simp, fun j p _ hj hp => by
  refine (World.putObj_heap_other ?_).trans hj
  intro e; subst e
  rw [h] at hj; cases hj; rw [ho] at hp; cases hp⟩
theorem KpC.below {N : Nat} {W V : World} (h : Below W.heap.size W V) : KpC N W V := ⟨h.size, fun k o _ hk _ => (h.block k (Array.getElem?_eq_some_iff.1 hk).1).trans hk⟩
theorem KpC.trans {N : Nat} {A B C : World} (h : KpC N A B) (k : KpC N B C) : KpC N A C := ⟨Nat.le_trans h.size k.size, fun i o hi ho hc => k.same i o hi (h.same i o hi ho hc) hc⟩
end Go.Proofs.YtedncmbamjkacaaDoor

/- Records one behind the other: a row of them that grows; what All answers (plain). -/
namespace Go.Proofs.YtedncmbamjkacaaDoor
open Go.RowKit Go.Shelf
set_option linter.unusedVariables false

theorem below_putY {B : Nat} {w W : World} (h : Below B w W) (k : Nat) (o : Obj) (hk : B ≤ k) : Below B w (W.putObj k o) := ⟨h.os, h.tape, h.output, by rw [World.putObj_size]; exact h.size, fun j hj => (World.putObj_heap_other (by omega)).trans (h.block j hj)⟩
theorem put_cellsY {W : World} {j k : Nat} {o o' p : Obj} (hj : W.heap[j]? = some p) (hp : p.isCells = true) (h : W.heap[k]? = some o) (ho : o.isCells = false) : (W.putObj k o').heap[j]? = some p := by
  refine (World.putObj_heap_other ?_).trans hj
  intro e; subst e
  rw [h] at hj; cases hj; rw [ho] at hp; cases hp
theorem heap_alY {W : World} {k : Nat} {p : Obj} (o : Obj) (h : W.heap[k]? = some p) : (W.alloc o).heap[k]? = some p := (Below.heap_alloc W o k (Array.getElem?_eq_some_iff.1 h).1).trans h
theorem setOffY (W : World) (bc k : Nat) (v : Value) (hk : k ≠ bc) : (W.setCell ⟨bc, 0, none⟩ v).heap[k]? = W.heap[k]? := Below.heap_setCell W ⟨bc, 0, none⟩ v k hk
theorem appIn_runY {F : Fence} {n : Nat} {P : Program} {w : World} {ops : Array Oper} {rest : List Oper} {o : Oper} {a : Act} {Q : Exit → Act → World → Prop} (hgd : o.guard = none) (s x : Operand) (t : TypeId)
    (ho : o.op = .call { callee := .builtin .append, args := #[s, x], argTypes := #[t, t] }) (vs vx v' : Value) (w' : World) (hs : a.eval s = vs) (hx : a.eval x = vx) (hr : (Builtin.append_ #[t, t] o.type #[vs, vx]).run P w = .ok v' w')
    (h : wpListIn F n P ops Q rest (a.put o.dst v') w') : wpListIn F n P ops Q (o :: rest) a w := by
  refine wpListIn_plain hgd fun K hK => ?_
  unfold Oper.wpIn
  refine ⟨by simp [Oper.about, ho, resolve, Target.leads, Sem.run_pure], ?_⟩
  rw [Oper.semAt_plain F _ _ (by rw [ho]; intro c e; cases e)]
  simp [execOp, ho, resolve, invoke, builtin, hs, hx, hr, Result.andThen]
  exact hK _ _ h
theorem results_cells2Y {fn : Func} {t u : Tmp} {ty tz : TypeId} (h : fn.results = #[.cell t ty, .cell u tz]) (tmps : Array Value) (P : Program) (w : World) (a b : Addr) (x y : Value)
    (ha : tmps.getD t undef = .pointer (some a)) (hb : tmps.getD u undef = .pointer (some b)) (hx : (loadVar ty a).run P w = .ok x w) (hy : (loadVar tz b).run P w = .ok y w) :
    (results fn tmps).run P w = .ok (.tuple #[x, y]) w := by
  unfold results
  rw [h]
  rw [Array.getD_eq_getD_getElem?] at ha hb
  simp [ Sem.run_bind, ha, hb, asAddr, hx, hy, Result.andThen]
theorem blines_any (a : Option Addr) (n c : Nat) (w : World) : Calls Tryd.prog 30 #[.slice a n c] w fun e w' => e = .returned (.func (.func 44) #[] #[.pointer (some ⟨w.heap.size, 0, none⟩)]) ∧ w' = w.alloc (.cells #[.slice a n c] 25) := by
  go_enter Tryd.func30, Tryd.ntmps30
  go_wp2
  go_ret
  exact ⟨rfl, rfl⟩
/-- A row of records from block N on. -/
def rowE (es : List EntP) : List Value := es.flatMap fun e => (entV e).toList
theorem rowE_len (es : List EntP) : (rowE es).length = es.length * 9 := by
  induction es with
  | nil => rfl
  | cons e r ih =>
    have : rowE (e :: r) = (entV e).toList ++ rowE r := rfl
    rw [this, List.length_append, ih, List.length_cons, Nat.succ_mul]
    show 9 + _ = _
    omega
def OwnE (N : Nat) (w : World) (v : Value) (es : List EntP) : Prop := w.ownsRow N 23 9 v es.length (rowE es)
theorem OwnE.nil (N : Nat) (w : World) : OwnE N w (.slice none 0 0) [] := World.ownsRow_nil _ _ _ _
theorem OwnE.kept {N : Nat} {W V : World} {v : Value} {es : List EntP} (h : OwnE N W v es) (k : KpC N W V) : OwnE N V v es := by
  obtain ⟨h1, h2⟩ := h
  refine ⟨h1, ?_⟩
  rcases h2 with h2 | ⟨g, cap, cur, hv, hg, hh, r⟩
  · exact .inl h2
  · exact .inr ⟨g, cap, cur, hv, hg, k.same g _ hg hh rfl, r⟩
theorem OwnE.mono {N M : Nat} {w : World} {v : Value} {es : List EntP} (h : OwnE N w v es) (k : M ≤ N) : OwnE M w v es := owns_mono h k
theorem OwnE.form {N : Nat} {w : World} {v : Value} {es : List EntP} (h : OwnE N w v es) : ∃ a c, v = .slice a es.length c := by
  obtain ⟨_, ⟨hv, hn⟩ | ⟨g, c, cur, hv, _⟩⟩ := h
  · exact ⟨none, 0, by rw [hv, hn]⟩
  · exact ⟨_, c, hv⟩
theorem rowE_one (e : EntP) : ∀ v ∈ (entV e).toList, v.oneCell' = true := by
  intro v hv
  unfold entV at hv
  simp only [List.mem_cons, List.not_mem_nil, or_false] at hv
  rcases hv with rfl | rfl | rfl | rfl | rfl | rfl | rfl | rfl | rfl <;> rfl
theorem rowE_at (es : List EntP) (i : Nat) (hi : i < es.length) (j : Nat) (hj : j < 9) : (rowE es)[i * 9 + j]? = (entV es[i])[j]? := by
  induction es generalizing i with
  | nil => cases hi
  | cons e r ih =>
    have e0 : rowE (e :: r) = (entV e).toList ++ rowE r := rfl
    have e9 : (entV e).toList.length = 9 := rfl
    cases i with
    | zero => rw [e0, Nat.zero_mul, Nat.zero_add, List.getElem?_append_left (by omega)]; simp
    | succ i =>
      rw [e0, List.getElem?_append_right (by omega)]
      have : (i + 1) * 9 + j - (entV e).toList.length = i * 9 + j := by omega
      rw [this, ih i (by simpa using hi)]; rfl
/-- The number of one of them. -/
theorem OwnE.seq {N : Nat} {w : World} {v : Value} {es : List EntP} (h : OwnE N w v es) (i : Nat) (hi : i < es.length) : ∃ g c, v = .slice (some ⟨g, 0, none⟩) es.length c ∧ N ≤ g ∧ w.cell? ⟨g, i * 9, none⟩ = some (.int .i64 es[i].q) := by
  have h0 := h
  obtain ⟨h1, ⟨h2, h3⟩ | ⟨g, c, cur, hv, hB, hg, hl, hm, hs, ht⟩⟩ := h
  · omega
  · refine ⟨g, c, hv, hB, ring_cell hg ?_⟩
    have k : (cur.toList.take (es.length * 9))[i * 9]? = (rowE es)[i * 9]? := by rw [ht]
    rw [List.getElem?_take_of_lt (by omega)] at k
    have q := rowE_at es i hi 0 (by omega)
    rw [Nat.add_zero] at q
    rw [q] at k
    rw [← Array.getElem?_toList, k]; rfl
theorem infoE : (Tryd.prog.info? 23).map (fun i => (i.zero, i.size, i.bytes)) = some (some (.agg #[.int .i64 0, .int .i64 0, .int .i64 0, .int .i64 0, .string ⟨#[]⟩, .string ⟨#[]⟩, .int .i64 0, .int .i64 0, .int .i64 0]), 9, 88) := by kernel_rfl
theorem ownE_append {N : Nat} {w : World} {v : Value} {X : List EntP} (h : OwnE N w v X) (e : EntP) (ad : Addr) (hc : ∀ i u, (entV e)[i]? = some u → w.cell? (ad.add i) = some u) (hmax : X.length ≤ 1048576) (hN : N ≤ w.heap.size) :
    ∃ g' c' w', (Builtin.append_ #[36, 36] 36 #[v, .slice (some ad) 1 1]).run Tryd.prog w = .ok (.slice (some ⟨g', 0, none⟩) (X.length + 1) c') w' ∧ OwnE N w' (.slice (some ⟨g', 0, none⟩) (X.length + 1) c') (X ++ [e]) ∧ w.grownBy w' v.ownBlock ∧ N ≤ g' := by
  obtain ⟨i, hi, hz0, hz1, hz2⟩ := info_parts infoE
  obtain ⟨v', w', hr, q1, q2, q3, q4⟩ := run_append_own_at (P := Tryd.prog) w N 36 36 23 i _ 9 88 Tryd.underlying36 hi hz0 hz1 hz2 rfl (by decide) v X.length (rowE X) h ad 1 1 (entV e).toList rfl
    (fun j u hj => hc j u (by simpa using hj)) (rowE_one e) (by unfold maxLen; omega) (by omega) hN
  have e1 : rowE (X ++ [e]) = rowE X ++ (entV e).toList := by unfold rowE; rw [List.flatMap_append]; simp
  have q1' : w'.ownsRow N 23 9 v' (X.length + 1) (rowE (X ++ [e])) := by rw [e1]; exact q1
  obtain ⟨y1, ⟨y2, y3⟩ | ⟨g', c', cur', hv', hg', y4⟩⟩ := id q1'
  · omega
  · subst hv'
    refine ⟨g', c', w', hr, ?_, q2, hg'⟩
    unfold OwnE
    rw [List.length_append]; exact q1'
/-- What All reads of lines. -/
def okL (x : List UInt8) : Bool := okR ⟨x.toArray⟩
def valL (x : List UInt8) : EntP := valR ⟨x.toArray⟩
def linkB : List EntP → Bool
  | [] => true
  | [_] => true
  | a :: b :: r => decide (b.q = a.q + 1) && linkB (b :: r)
def goodB (xs : List (List UInt8)) : Bool := xs.all okL && linkB (xs.map valL)
def lastQ (es : List EntP) (e : EntP) : Bool := match es.getLast? with | none => true | some a => decide (e.q = a.q + 1)
theorem link_snoc : ∀ (es : List EntP) (e : EntP), linkB (es ++ [e]) = (linkB es && lastQ es e)
  | [], e => rfl
  | [a], e => by show (decide (e.q = a.q + 1) && true) = (true && decide (e.q = a.q + 1)); rw [Bool.and_true, Bool.true_and]
  | a :: b :: r, e => by
    have k := link_snoc (b :: r) e
    show (decide (b.q = a.q + 1) && linkB ((b :: r) ++ [e])) = _
    rw [k]
    have : lastQ (a :: b :: r) e = lastQ (b :: r) e := by unfold lastQ; rw [List.getLast?_cons_cons]
    rw [this]
    show _ = (decide (b.q = a.q + 1) && linkB (b :: r) && _)
    rw [Bool.and_assoc]
theorem good_snoc (xs : List (List UInt8)) (x : List UInt8) : goodB (xs ++ [x]) = (goodB xs && (okL x && lastQ (xs.map valL) (valL x))) := by
  unfold goodB
  rw [List.all_append, List.map_append, List.map_cons, List.map_nil, link_snoc, List.all_cons, List.all_nil, Bool.and_true]
  cases xs.all okL <;> cases okL x <;> cases linkB (xs.map valL) <;> rfl
theorem ok_right {x : List UInt8} (h : okL x = true) : rightE (valL x) = true := by
  unfold okL at h
  unfold valL valR
  rw [if_pos h]
  unfold okR at h
  simp only [Bool.and_eq_true] at h
  exact h.2.1
theorem lastq_bd {pre : List (List UInt8)} (h : goodB pre = true) (m : Nat) (hm : m < (pre.map valL).length) : 0 ≤ ((pre.map valL)[m]).q ∧ ((pre.map valL)[m]).q ≤ 1125899906842624 := by
  unfold goodB at h
  rw [Bool.and_eq_true, List.all_eq_true] at h
  rw [List.getElem_map]
  rw [List.length_map] at hm
  have k := right_bd (ok_right (h.1 pre[m] (List.getElem_mem hm)))
  exact k.1 _ (by unfold numsE; simp)
theorem OwnE.len9 {N : Nat} {w : World} {v : Value} {es : List EntP} (h : OwnE N w v es) : es.length ≤ 9223372036854775807 := by
  obtain ⟨_, ⟨_, hn⟩ | ⟨g, c, cur, hv, _, _, h1, h2, _⟩⟩ := h
  · omega
  · unfold maxLen at h2; omega
/-- What All answers. -/
def AllR (w : World) (b : List UInt8) (r : Ending) (w' : World) : Prop :=
  Below w.heap.size w w' ∧ ((goodB (linesL b) = true ∧ ∃ v, r = .returned (.tuple #[v, .int .i64 0]) ∧ OwnE w.heap.size w' v ((linesL b).map valL)) ∨
    (∃ pre x, pre ++ [x] <+: linesL b ∧ goodB pre = true ∧ goodB (pre ++ [x]) = false ∧ r = .returned (.tuple #[.slice none 0 0, .int .i64 (if okL x = true then 1 else 20)])))
end Go.Proofs.YtedncmbamjkacaaDoor

/- All: between two rounds, and a round's end. -/
namespace Go.Proofs.YtedncmbamjkacaaDoor
open Go.RowKit Go.Shelf
set_option linter.unusedVariables false

/-- Between two rounds. -/
def AllI (w : World) (pre : List (List UInt8)) (W : World) : Prop := ∃ v, W.heap[w.heap.size + 2]? = some (.cells #[v] 36) ∧ OwnE (w.heap.size + 4) W v (pre.map valL) ∧ goodB pre = true ∧ W.heap[w.heap.size]? = some (.cells #[.slice none 0 0] 36) ∧ W.heap[w.heap.size + 1]? = some (.cells #[.int .i64 0] 26) ∧ Below w.heap.size w W ∧ w.heap.size + 4 ≤ W.heap.size
/-- A round has left. -/
def AllX (w : World) (pre : List (List UInt8)) (W : World) : Prop := ∃ p0 x, pre = p0 ++ [x] ∧ goodB p0 = true ∧ goodB pre = false ∧ W.heap[w.heap.size]? = some (.cells #[.slice none 0 0] 36) ∧ W.heap[w.heap.size + 1]? = some (.cells #[.int .i64 (if okL x = true then 1 else 20)] 26) ∧ Below w.heap.size w W ∧ w.heap.size + 4 ≤ W.heap.size
theorem allI_put (w : World) : OffY (w.heap.size + 4) (AllI w) := by
  rintro pre W k o o' ⟨v, h1, h2, h3, h6, h7, h8, h9⟩ hk ho hN
  exact ⟨v, put_cellsY h1 rfl hk ho, h2.kept (KpC.put W k o o' hk ho), h3, put_cellsY h6 rfl hk ho, put_cellsY h7 rfl hk ho, below_putY h8 k o' (by omega), by rw [World.putObj_size]; exact h9⟩
theorem allX_put (w : World) : OffY (w.heap.size + 4) (AllX w) := by
  rintro pre W k o o' ⟨p0, x, h1, h2, h3, h6, h7, h8, h9⟩ hk ho hN
  exact ⟨p0, x, h1, h2, h3, put_cellsY h6 rfl hk ho, put_cellsY h7 rfl hk ho, below_putY h8 k o' (by omega), by rw [World.putObj_size]; exact h9⟩
theorem allI_alloc (w : World) (pre : List (List UInt8)) (W : World) (o : Obj) (h : AllI w pre W) : AllI w pre (W.alloc o) := by
  obtain ⟨v, h1, h2, h3, h6, h7, h8, h9⟩ := h
  exact ⟨v, heap_alY o h1, h2.kept (KpC.alloc _ W o), h3, heap_alY o h6, heap_alY o h7, h8.alloc h8.size o, by rw [World.size_alloc]; omega⟩
theorem allI_set (w : World) (pre : List (List UInt8)) (W : World) (u : Value) (h : AllI w pre W) : AllI w pre (W.setCell ⟨w.heap.size + 3, 0, none⟩ u) := by
  obtain ⟨v, h1, h2, h3, h6, h7, h8, h9⟩ := h
  have hs : (W.setCell ⟨w.heap.size + 3, 0, none⟩ u).heap.size = W.heap.size := by simp
  exact ⟨v, setCell_offY _ _ _ _ h1 (by omega), h2.kept (KpC.set W _ u (by simp)), h3, setCell_offY _ _ _ _ h6 (by omega), setCell_offY _ _ _ _ h7 (by omega), h8.setCell (p := ⟨w.heap.size + 3, 0, none⟩) (by simp) u, by rw [hs]; exact h9⟩
theorem allI_drew (w : World) (pre : List (List UInt8)) (W : World) (h : AllI w pre W) : AllI w pre W.drew := by
  obtain ⟨v, h1, h2, h3, h6, h7, h8, h9⟩ := h
  exact ⟨v, h1, h2.kept (KpC.drew _ W), h3, h6, h7, h8.drew, h9⟩
theorem below_drewN {B : Nat} {w W : World} (h : Below B w W) (n : Nat) : Below B w (W.drewN n) := h.trans ⟨rfl, rfl, rfl, Nat.le_refl _, fun _ _ => rfl⟩
theorem all_step (nq : Nat) {w W W2 : World} {pre : List (List UInt8)} {x : List UInt8} {v : Value} (hI : AllI w pre W) (hv0 : W.heap[w.heap.size + 2]? = some (.cells #[v] 36)) (hf : goodB (pre ++ [x]) = true) (hl : pre.length ≤ 1048576) (B2 : Below W.heap.size W W2) :
    W2.cell? ⟨w.heap.size + 1 + 1, 0, none⟩ = some v ∧ w.heap.size + 1 + 1 < W2.heap.size ∧
    ∃ g' c' W5, (Builtin.append_ #[36, 36] 36 #[v, .slice (some ⟨W2.heap.size + 1, 0, none⟩) 1 1]).run Tryd.prog (((W2.alloc (.cells (entV (valL x)) 23)).drewN nq).alloc (.cells (entV (valL x)) 23)) = .ok (.slice (some ⟨g', 0, none⟩) (pre.length + 1) c') W5 ∧
      W5.cell? ⟨w.heap.size + 1 + 1, 0, none⟩ = some v ∧ W5.frozen? ⟨w.heap.size + 1 + 1, 0, none⟩ = false ∧
      Hid (∀ a, linPostY (w.heap.size + 3) (AllI w) (AllX w) (pre ++ [x]) W .normal a (W5.setCell ⟨w.heap.size + 1 + 1, 0, none⟩ (.slice (some ⟨g', 0, none⟩) (pre.length + 1) c'))) := by
  obtain ⟨v', h1, h2, h3, h6, h7, h8, h9⟩ := hI
  obtain rfl : v' = v := by
    rw [h1] at hv0
    have := Option.some.inj hv0
    injection this with e1
    simpa using e1
  have s4 : (((W2.alloc (.cells (entV (valL x)) 23)).drewN nq).alloc (.cells (entV (valL x)) 23)).heap.size = W2.heap.size + 2 := by simp
  have s3 : ((W2.alloc (.cells (entV (valL x)) 23)).drewN nq).heap.size = W2.heap.size + 1 := by show (W2.alloc _).heap.size = _; simp
  have B4 : Below W2.heap.size W2 (((W2.alloc (.cells (entV (valL x)) 23)).drewN nq).alloc (.cells (entV (valL x)) 23)) := (below_drewN ((Below.refl _ _).alloc (Nat.le_refl _) _) nq).alloc (by rw [s3]; omega) _
  have D4 : Below W.heap.size W (((W2.alloc (.cells (entV (valL x)) 23)).drewN nq).alloc (.cells (entV (valL x)) 23)) := B2.trans (B4.mono B2.size)
  have hsz := B2.size
  have O4 := h2.kept (KpC.below D4)
  have n4 := World.alloc_heap_new ((W2.alloc (.cells (entV (valL x)) 23)).drewN nq) (.cells (entV (valL x)) 23)
  rw [s3] at n4
  have own : ∀ k, v'.ownBlock = some k → w.heap.size + 4 ≤ k ∧ k < W.heap.size := fun k e => h2.lt k e
  obtain ⟨g', c', W5, r5, O5, G5, N5⟩ := ownE_append O4 (valL x) ⟨W2.heap.size + 1, 0, none⟩ (fun i u hu => by rw [addr_add, Nat.zero_add]; exact ring_cell n4 hu) (by rw [List.length_map]; exact hl) (by omega)
  rw [List.length_map] at r5 O5
  have key : ∀ k, k < w.heap.size + 4 → W5.heap[k]? = W.heap[k]? := fun k hk => (G5.block k (by omega) (fun e => by have := (own k e.symm).1; omega)).trans (D4.block k (by omega))
  have k1 : W5.heap[w.heap.size + 2]? = some (.cells #[v'] 36) := (key _ (by omega)).trans h1
  have hc2 : W2.heap[w.heap.size + 2]? = some (.cells #[v'] 36) := (B2.block _ (by omega)).trans h1
  refine ⟨ring_cell hc2 rfl, by omega, g', c', W5, r5, ring_cell k1 rfl, ring_z k1, ?_⟩
  have hs6 : (W5.setCell ⟨w.heap.size + 2, 0, none⟩ (.slice (some ⟨g', 0, none⟩) (pre.length + 1) c')).heap.size = W5.heap.size := by simp
  have hg5 := G5.size
  have KO : KeepsOthers W W5 := by
    refine (KeepsOthers.trans ⟨D4.size, fun k o h _ => (D4.block k (Array.getElem?_eq_some_iff.1 h).1).trans h⟩ (KeepsOthers.of_grownBy G5 fun j o e ho => ?_))
    rcases O4.2 with ⟨hv, _⟩ | ⟨g, cap, cur, hv, _, hh, _⟩
    · rw [hv] at e; cases e
    · rw [hv] at e
      have : g = j := by simpa [Value.ownBlock] using e
      subst this
      rw [hh] at ho; cases ho; rfl
  have O5' : OwnE (w.heap.size + 4) W5 (.slice (some ⟨g', 0, none⟩) (pre.length + 1) c') ((pre ++ [x]).map valL) := by rw [List.map_append]; exact O5
  refine fun _ => ⟨KO.trans (KeepsOthers.setCell _ _ _), (setOffY _ _ _ _ (by omega)).trans (key _ (by omega)), _, ?_, O5'.kept (KpC.set W5 _ _ (by simp)), hf, setCell_offY _ _ _ _ ((key _ (by omega)).trans h6) (by omega), setCell_offY _ _ _ _ ((key _ (by omega)).trans h7) (by omega), ?_, by rw [hs6]; omega⟩
  · rw [ring_set k1]; rfl
  · exact ((h8.trans (D4.mono h8.size)).trans ((Below.refl _ _).grown G5 (by omega) (fun k e => by have := (own k e).1; omega))).setCell (p := ⟨w.heap.size + 2, 0, none⟩) (by simp) _
theorem all_stop {w W W2 : World} {pre : List (List UInt8)} {x : List UInt8} (hI : AllI w pre W) (hf : goodB (pre ++ [x]) = false) (code : Int) (hcd : code = if okL x = true then 1 else 20) (B2 : Below W.heap.size W W2) :
    (∀ o, (W2.alloc o).cell? ⟨w.heap.size, 0, none⟩ = some (.slice none 0 0)) ∧ W2.cell? ⟨w.heap.size, 0, none⟩ = some (.slice none 0 0) ∧ W2.frozen? ⟨w.heap.size, 0, none⟩ = false ∧ W2.cell? ⟨w.heap.size + 1, 0, none⟩ = some (.int .i64 0) ∧ W2.frozen? ⟨w.heap.size + 1, 0, none⟩ = false ∧ w.heap.size < W2.heap.size ∧ w.heap.size + 1 < W2.heap.size ∧
      Hid (∀ a V, Below W2.heap.size W2 V → linPostY (w.heap.size + 3) (AllI w) (AllX w) (pre ++ [x]) W .ret a ((V.setCell ⟨w.heap.size, 0, none⟩ (.slice none 0 0)).setCell ⟨w.heap.size + 1, 0, none⟩ (.int .i64 code))) := by
  obtain ⟨v, h1, h2, h3, h6, h7, h8, h9⟩ := hI
  have hsz := B2.size
  have g6 : W2.heap[w.heap.size]? = some (.cells #[.slice none 0 0] 36) := (B2.block _ (by omega)).trans h6
  have g7 : W2.heap[w.heap.size + 1]? = some (.cells #[.int .i64 0] 26) := (B2.block _ (by omega)).trans h7
  refine ⟨fun o => ring_cell (heap_alY o g6) rfl, ring_cell g6 rfl, ring_z g6, ring_cell g7 rfl, ring_z g7, by omega, by omega, fun a V BV => ?_⟩
  have v6 := (BV.block _ (heap_lt g6)).trans g6
  have v7 := (BV.block _ (heap_lt g7)).trans g7
  have e6 : (V.setCell ⟨w.heap.size, 0, none⟩ (.slice none 0 0)).heap[w.heap.size]? = some (.cells #[.slice none 0 0] 36) := by rw [ring_set v6]; rfl
  have bs := BV.size
  have D : Below W.heap.size W V := B2.trans (BV.mono hsz)
  refine ⟨(KeepsOthers.trans ⟨D.size, fun k o h _ => (D.block k (Array.getElem?_eq_some_iff.1 h).1).trans h⟩ (KeepsOthers.setCell _ _ _)).trans (KeepsOthers.setCell _ _ _), pre, x, rfl, h3, hf, setCell_offY _ _ _ _ e6 (by omega), ?_, ((h8.trans (D.mono h8.size)).setCell (p := ⟨w.heap.size, 0, none⟩) (by simp) _).setCell (p := ⟨w.heap.size + 1, 0, none⟩) (by simp) _, by simp; omega⟩
  rw [ring_set (setCell_offY _ _ _ _ v7 (by omega)), hcd]; rfl
theorem ret_alloc {w W V : World} {bc : Nat} {xs : List (List UInt8)} {a : Act} (o : Obj) (h : linPostY bc (AllI w) (AllX w) xs W .ret a V) : linPostY bc (AllI w) (AllX w) xs W .ret a (V.alloc o) := by
  obtain ⟨hk, p0, x, h1, h2, h3, h6, h7, h8, h9⟩ := h
  refine ⟨hk.trans ⟨by simp, fun k o' h _ => (Below.heap_alloc V o k (Array.getElem?_eq_some_iff.1 h).1).trans h⟩, p0, x, h1, h2, h3, heap_alY o h6, heap_alY o h7, h8.alloc h8.size o, by rw [World.size_alloc]; omega⟩
theorem ret_drew {w W V : World} {bc : Nat} {xs : List (List UInt8)} {a : Act} (h : linPostY bc (AllI w) (AllX w) xs W .ret a V) : linPostY bc (AllI w) (AllX w) xs W .ret a V.drew := by
  obtain ⟨hk, p0, x, h1, h2, h3, h6, h7, h8, h9⟩ := h
  exact ⟨hk.trans ⟨Nat.le_refl _, fun k o' h _ => h⟩, p0, x, h1, h2, h3, h6, h7, h8.drew, h9⟩
theorem ret_drewN {w W V : World} {bc : Nat} {xs : List (List UInt8)} {a : Act} (n : Nat) (h : linPostY bc (AllI w) (AllX w) xs W .ret a V) : linPostY bc (AllI w) (AllX w) xs W .ret a (V.drewN n) := by
  obtain ⟨hk, p0, x, h1, h2, h3, h6, h7, h8, h9⟩ := h
  exact ⟨hk.trans ⟨Nat.le_refl _, fun k o' h _ => h⟩, p0, x, h1, h2, h3, h6, h7, below_drewN h8 n, h9⟩
end Go.Proofs.YtedncmbamjkacaaDoor

/- A region that draws its order and only reads, inside the body of a loop over an iterator: one walk in the text's order serves. -/
namespace Go.Proofs.YtedncmbamjkacaaDoor
open Go.RowKit
set_option linter.unusedVariables false

theorem wpOpIn_round {n l0 i : Nat} {P : Program} {ops : Array Oper} {Q : Exit → Act → World → Prop} {K : Act → World → Prop} {a : Act} {w : World} (hnd : ∀ (i : Nat) o c, ops[i]? = some o → o.op ≠ .defer c) (h : wpOpIn Fence.wide n P ops Q i K a w) : wpOpIn (Fence.wide.inRound l0) n P ops Q i K a w := by
  unfold wpOpIn at *
  cases ho : ops[i]? with
  | none => rw [ho] at h; exact h
  | some o =>
    rw [ho] at h
    simp only at h ⊢
    split
    · rename_i hw
      rw [if_pos hw] at h
      unfold Oper.wpIn at *
      rw [Oper.semAt_eq _ _ _ (fun c => hnd i o c ho)] at h ⊢
      refine ⟨h.1, ?_⟩
      have h2 := h.2
      generalize (execOp a.eval o).run P w = r at *
      cases r with
      | ok x w' => cases x <;> exact h2
      | halt x w' => cases x <;> exact h2
    · rename_i hw
      rw [if_neg hw] at h
      exact h
theorem wpAnyIn_round {n l0 : Nat} {P : Program} {md : Region.Mode} {ops : Array Oper} {Q : Exit → Act → World → Prop} (hnd : ∀ (i : Nat) o c, ops[i]? = some o → o.op ≠ .defer c) : ∀ (fuel : Nat) (listed : Array Bool) (a : Act) (w : World), wpAnyIn Fence.wide n P md ops Q fuel listed a w → wpAnyIn (Fence.wide.inRound l0) n P md ops Q fuel listed a w
  | 0, _, _, _, h => h
  | fuel + 1, listed, a, w, h => ⟨h.1, fun i hi => wpOpIn_round hnd (wpOpIn_mono (fun a' w' h' => wpAnyIn_round hnd fuel _ a' w' h') (h.2 i hi))⟩
theorem noDefer_of {l : List Oper} (h : (l.all fun o => match o.op with | .defer _ => false | _ => true) = true) : ∀ (i : Nat) o c, l.toArray[i]? = some o → o.op ≠ .defer c := by
  intro i o c ho e
  rw [List.getElem?_toArray] at ho
  have := List.all_eq_true.1 h o (List.mem_of_getElem? ho)
  rw [e] at this
  cases this
theorem region_quiet_round {n l0 id : Nat} {P : Program} {Q : Exit → Act → World → Prop} {a : Act} {w : World} {l : List Oper} (hm : P.follows .mixedOrders = true) (hB : Region.lexB .any l.toArray = true) (hnd : (l.all fun o => match o.op with | .defer _ => false | _ => true) = true)
    (h : wpQuietIn Fence.wide n P l.toArray (fun w' => ∃ n, w' = w.drewN n) (fun a' => ∀ w', (∃ n, w' = w.drewN n) → Q .normal a' w') l a) : (Code.region id l.toArray true).wpIn (Fence.wide.inRound l0) n P Q a w := by
  simp only [Region.lexB, Bool.and_eq_true] at hB
  refine wpIn_region_any hm (wpAnyIn_round (noDefer_of hnd) _ _ _ _ (wpAnyIn_of_quiet (F := Fence.wide) (C := fun w' => ∃ n, w' = w.drewN n) (Q := fun a' => ∀ w', (∃ n, w' = w.drewN n) → Q .normal a' w') rfl (fun _ w' hw' h => h w' hw') _ _ _ _ ⟨1, rfl⟩ ?_))
  have := wpAnyQIn_lex (F := Fence.wide) (n := n) (C := fun w' => ∃ n, w' = w.drewN n) (md := .any) hB.1 l.toArray.toList 0 (Array.replicate l.toArray.size false) a (by simp) (by simpa using hB.2) (by simpa using h)
  simpa using this
end Go.Proofs.YtedncmbamjkacaaDoor

/- All walked. -/
namespace Go.Proofs.YtedncmbamjkacaaDoor
open Go.RowKit Go.Shelf
attribute [local go_sem] Oper.semAt_some
set_option linter.unusedVariables false

theorem lines_len (b : List UInt8) : (linesL b).length ≤ b.length ∧ ∀ x ∈ linesL b, x.length ≤ b.length := by
  have key : ∀ (l acc : List UInt8), (lnA acc l).length ≤ acc.length + l.length ∧ ∀ x ∈ lnA acc l, x.length ≤ acc.length + l.length := by
    intro l
    induction l with
    | nil =>
      intro acc
      unfold lnA
      split
      · exact ⟨Nat.zero_le _, fun x hx => by cases hx⟩
      · rename_i h
        have : 0 < acc.length := List.length_pos_iff.2 h
        exact ⟨by simp; omega, fun x hx => by rw [List.mem_singleton] at hx; rw [hx]; simp⟩
    | cons c l ih =>
      intro acc
      unfold lnA
      split
      · have k := ih []
        refine ⟨?_, fun x hx => ?_⟩
        · have := k.1; simp only [List.length_cons, List.length_nil] at this ⊢; omega
        · rcases List.mem_cons.1 hx with rfl | hx
          · simp only [List.length_append, List.length_cons, List.length_nil]; omega
          · have := k.2 x hx; simp only [List.length_cons, List.length_nil] at this ⊢; omega
      · have k := ih (acc ++ [c])
        refine ⟨?_, fun x hx => ?_⟩
        · have := k.1; simp only [List.length_append, List.length_cons, List.length_nil] at this ⊢; omega
        · have := k.2 x hx; simp only [List.length_append, List.length_cons, List.length_nil] at this ⊢; omega
  have k := key b []
  simp only [List.length_nil, Nat.zero_add] at k
  exact k
set_option maxRecDepth 100000 in
set_option maxHeartbeats 1600000 in
theorem enall_any (b : List UInt8) (k : Nat) (a : Option Addr) (n c : Nat) (w : World) (hS : Src w k (.slice a n c) b) (hk : k < w.heap.size) (hn : b.length ≤ 1048576) (hM : MaxL w) (hL : LmT w) (hP : PowT w) :
    Calls Tryd.prog 13 #[.slice a n c] w (AllR w b) := by
  obtain rfl := hS.len.1.symm
  refine (callsIn_wide (n := 3)).1 (callsIn_of_wp_marks Tryd.func13 rfl trivial ?_)
  simp only [Tryd.ntmps13, List.size_toArray, List.length_cons, List.length_nil, Nat.reduceAdd, Nat.reduceSub, Array.replicate_succ, Array.replicate_zero, List.push_toArray, List.append_toArray, List.nil_append, List.cons_append]
  have HL : Hid (∀ W, Calls Tryd.prog 30 #[.slice a b.length c] W fun e w' => e = .returned (.func (.func 44) #[] #[.pointer (some ⟨W.heap.size, 0, none⟩)]) ∧ w' = W.alloc (.cells #[.slice a b.length c] 25)) := fun W => blines_any a b.length c W
  gi_wp2_with (refine ⟨trivial, ?_⟩; gi_at_call 30; refine (callsIn_wide.2 (HL.out _)).mono ?_; rintro e w' ⟨rfl, rfl⟩)
  rename_i KK HKK
  have hsz0 : ((((w.alloc (.cells #[.slice none 0 0] 36)).alloc (.cells #[.int .i64 0] 26)).alloc (.cells #[.slice none 0 0] 36)).alloc (.cells #[.slice a b.length c] 25)).heap.size = w.heap.size + 4 := by simp
  have hI0 : AllI w [] ((((w.alloc (.cells #[.slice none 0 0] 36)).alloc (.cells #[.int .i64 0] 26)).alloc (.cells #[.slice none 0 0] 36)).alloc (.cells #[.slice a b.length c] 25)) := by
    have n0 := World.alloc_heap_new w (.cells #[.slice none 0 0] 36)
    have n1 := World.alloc_heap_new (w.alloc (.cells #[.slice none 0 0] 36)) (.cells #[.int .i64 0] 26)
    have n2 := World.alloc_heap_new ((w.alloc (.cells #[.slice none 0 0] 36)).alloc (.cells #[.int .i64 0] 26)) (.cells #[.slice none 0 0] 36)
    simp only [World.size_alloc] at n1 n2
    exact ⟨_, heap_alY _ n2, OwnE.nil _ _, rfl, heap_alY _ (heap_alY _ (heap_alY _ n0)), heap_alY _ (heap_alY _ n1), ((((Below.refl _ _).alloc (Nat.le_refl _) _).alloc (by simp) _).alloc (by simp; omega) _).alloc (by simp; omega) _, by rw [hsz0]; exact Nat.le_refl _⟩
  have hc0 : LeftY w ((((w.alloc (.cells #[.slice none 0 0] 36)).alloc (.cells #[.int .i64 0] 26)).alloc (.cells #[.slice none 0 0] 36)).alloc (.cells #[.slice a b.length c] 25)) (w.heap.size + 3) k b := by
    have n3 := World.alloc_heap_new (((w.alloc (.cells #[.slice none 0 0] 36)).alloc (.cells #[.int .i64 0] 26)).alloc (.cells #[.slice none 0 0] 36)) (.cells #[.slice a b.length c] 25)
    simp only [World.size_alloc] at n3
    exact ⟨a, c, n3, hS⟩
  clear HL
  refine range_blines w 3 (w.heap.size + 3) k (by decide) (by rw [hsz0]; omega) b (by omega) hc0 rfl rfl (AllI w) (AllX w) (by rw [hsz0]; exact allI_put w) (by rw [hsz0]; exact allX_put w) (allI_alloc w) (allI_set w) (allI_drew w) hI0 (fun pre W h => by obtain ⟨v, _, _, _, _, _, h8, _⟩ := h; exact h8.block k hk)
    (fun x => { tmps := #[.slice a b.length c, undef, .pointer (some ⟨w.heap.size, 0, none⟩), .pointer (some ⟨w.heap.size + 1, 0, none⟩), .pointer (some ⟨w.heap.size + 1 + 1, 0, none⟩), x, undef, undef, .slice a b.length c, .func (.func 44) #[] #[.pointer (some ⟨w.heap.size + 1 + 1 + 1, 0, none⟩)], x, undef, undef, undef, undef, undef, undef, undef, undef, undef, undef, undef, undef, undef, undef, undef, undef, undef, undef, undef, undef, undef, undef, undef, undef, undef, undef, undef, undef, undef], defers := [] }) ?assign ?body ?done ?stop
  case assign =>
    intro l x W K hK
    gi_wp2
    exact hK
  case body =>
    intro l pre x sa W hI hSx hxp hpre
    clear hI0 hc0 hsz0
    have hxl : x.length ≤ 1048576 := Nat.le_trans ((lines_len b).2 x (hpre.subset (by simp))) hn
    have hpl : pre.length ≤ 1048576 := by
      have e2 := hpre.length_le
      have := (lines_len b).1
      rw [List.length_append] at e2
      omega
    have hII := hI
    obtain ⟨v, h1, h2, h3, h6, h7, h8, h9⟩ := hII
    have HRd : Hid (Calls Tryd.prog 9 #[.slice sa x.length x.length] W fun r w' => r = .returned (.tuple #[.agg (entV (valL x)), .int .i64 (codR ⟨x.toArray⟩)]) ∧ Below W.heap.size W w') := enread_any x k sa x.length x.length W (hSx.frame (h8.block k hk)) (fun _ => Nat.lt_of_lt_of_le hk h8.size) (by omega) (hM.below h8) (hL.below h8) (hP.below h8)
    have hcd : codR ⟨x.toArray⟩ = if okL x = true then 0 else 20 := rfl
    rw [hcd] at HRd
    clear hcd
    simp only [entV] at HRd
    cases hok : okL x
    · have hg : goodB (pre ++ [x]) = false := by rw [good_snoc, hok, Bool.false_and, Bool.and_false]
      rw [hok] at HRd
      simp only [Bool.false_eq_true, if_false] at HRd
      have PS : Hid (∀ W2, Below W.heap.size W W2 → _) := fun W2 k3 => all_stop hI hg 20 (by rw [hok]; rfl) k3
      clear hI h1 h2 h3 h6 h7 h8 h9 hSx hS hM hL hP hpre hpl HKK hg hok
      generalize (valL x).q = z0 at *
      generalize (valL x).a = z1 at *
      generalize (valL x).k = z2 at *
      generalize (valL x).n = z3 at *
      generalize (valL x).m = zm at *
      generalize (valL x).t = zt at *
      generalize (valL x).c = z4 at *
      generalize (valL x).u = z5 at *
      generalize (valL x).d = z6 at *
      gi_wp2_with (refine ⟨trivial, ?_⟩; gi_at_call 9; refine (CallsIn.inRound l (callsIn_wide.2 HRd.out)).mono ?_; rintro e W2 ⟨rfl, B2⟩; obtain ⟨q0, q1, q2, q3, q4, l1, l2, q5⟩ := PS.out W2 B2; clear PS B2 q0)
      exact ret_alloc _ (q5.out _ _ (Below.refl _ _))
    · rw [hok] at HRd
      simp only [if_true] at HRd
      have hrt := right_bd (ok_right hok)
      have hq0 := hrt.1 (valL x).q (by unfold numsE; simp)
      cases hlk : lastQ (pre.map valL) (valL x)
      · have hg : goodB (pre ++ [x]) = false := by rw [good_snoc, hlk, Bool.and_false, Bool.and_false]
        have PS : Hid (∀ W2, Below W.heap.size W W2 → _) := fun W2 k3 => all_stop hI hg 1 (by rw [hok]; rfl) k3
        have hne : 0 < (pre.map valL).length := by
          cases hp0 : pre.map valL with
          | nil => rw [hp0] at hlk; cases hlk
          | cons _ _ => exact Nat.succ_pos _
        obtain ⟨m, hm⟩ : ∃ m, (pre.map valL).length = m + 1 := ⟨(pre.map valL).length - 1, by omega⟩
        obtain ⟨g, cc, hv, hgN, hcell⟩ := h2.seq m (by omega)
        have hlast : (pre.map valL).getLast? = some ((pre.map valL)[m]'(by omega)) := by
          rw [List.getLast?_eq_getElem?, show (pre.map valL).length - 1 = m by omega]
          exact List.getElem?_eq_getElem _
        have hlr : 0 ≤ ((pre.map valL)[m]'(by omega)).q ∧ ((pre.map valL)[m]'(by omega)).q ≤ 1125899906842624 := lastq_bd h3 m (by omega)
        have hne1 : ¬ (valL x).q = ((pre.map valL)[m]'(by omega)).q + 1 := by
          unfold lastQ at hlk
          rw [hlast] at hlk
          simpa using hlk
        have hg1 : g < W.heap.size := by
          unfold World.cell? at hcell
          rcases Nat.lt_or_ge g W.heap.size with c | c
          · exact c
          · simp [Array.getElem?_eq_none c] at hcell
        generalize ((pre.map valL)[m]'(by omega)).q = lq at *
        rw [hm] at hv
        subst hv
        have HC2 : Hid (∀ W2, Below W.heap.size W W2 → W2.cell? ⟨w.heap.size + 1 + 1, 0, none⟩ = some (.slice (some ⟨g, 0, none⟩) (m + 1) cc) ∧ W2.cell? ⟨g, m * 9, none⟩ = some (.int .i64 lq) ∧ w.heap.size + 1 + 1 < W2.heap.size ∧ g < W2.heap.size ∧ W2.cell? ⟨g, (((m + 1 : Nat) : Int) - 1).toNat * 9, none⟩ = some (.int .i64 lq)) := fun W2 k3 => ⟨ring_cell ((k3.block _ (by omega)).trans h1) rfl, (k3.cell (p := ⟨g, m * 9, none⟩) hg1).trans hcell, by have := k3.size; omega, by have := k3.size; omega, by rw [show (((m + 1 : Nat) : Int) - 1).toNat = m by omega]; exact (k3.cell (p := ⟨g, m * 9, none⟩) hg1).trans hcell⟩
        obtain ⟨lq0, lq1⟩ := hlr
        obtain ⟨hz0, hz1⟩ := hq0
        have hw1 : wrap64 (((m + 1 : Nat) : Int) - 1) = (m : Int) := by rw [List.length_map] at hm; unfold wrap64; omega
        have hw2 : IntKind.i64.wrap (((m + 1 : Nat) : Int) - 1) = (m : Int) := by rw [IntKind.wrap_i64]; rw [List.length_map] at hm; omega
        have hmn : m < m + 1 := Nat.lt_succ_self m
        have hpn : 0 < m + 1 := Nat.succ_pos m
        have hpd : decide (0 < m + 1) = true := decide_eq_true hpn
        have hm0 : (0 : Int) ≤ (m : Int) := by omega
        have hm1 : ¬ (m : Int) < 0 := by omega
        have hm2 : ¬ ((m + 1 : Nat) : Int) ≤ (m : Int) := by omega
        have hmi : (m : Int) < ((m + 1 : Nat) : Int) := by omega
        have hpi : (0 : Int) < ((m + 1 : Nat) : Int) := by omega
        have hnb : ((valL x).q == lq + 1) = false := by simpa using hne1
        clear hI h1 h2 h3 h6 h7 h8 h9 hSx hS hM hL hP hpre hpl HKK hg hok hlk hrt hcell hlast hm hne hne1 hgN hg1
        generalize (valL x).q = z0 at *
        generalize (valL x).a = z1 at *
        generalize (valL x).k = z2 at *
        generalize (valL x).n = z3 at *
        generalize (valL x).m = zm at *
        generalize (valL x).t = zt at *
        generalize (valL x).c = z4 at *
        generalize (valL x).u = z5 at *
        generalize (valL x).d = z6 at *
        generalize hN : m + 1 = N at *
        clear hN
        gi_wp2_with (refine ⟨trivial, ?_⟩; gi_at_call 9; refine (CallsIn.inRound l (callsIn_wide.2 HRd.out)).mono ?_; rintro e W2 ⟨rfl, B2⟩; obtain ⟨q0, q1, q2, q3, q4, l1, l2, q5⟩ := PS.out W2 B2; obtain ⟨c1, c2, l3, l4, c3⟩ := HC2.out W2 B2; clear PS HC2 B2 q0)
        refine region_quiet_round (by kernel_rfl) (by kernel_rfl) (by kernel_rfl) ?_
        repeat (gi_big_quiet_step (fail))
        refine wpQuietIn_nil ?_
        intro _ hw'
        obtain ⟨nq, hw''⟩ := hw'
        subst hw''
        gi_wp2
        exact q5.out _ _ (below_drewN ((Below.refl _ _).alloc (Nat.le_refl _) _) nq)
      · have hg : goodB (pre ++ [x]) = true := by rw [good_snoc, h3, hok, hlk]; rfl
        rcases Nat.eq_zero_or_pos (pre.map valL).length with hne | hne
        · obtain ⟨va, vc, hv⟩ := h2.form
          rw [hne] at hv
          subst hv
          have PS : Hid (∀ W2, Below W.heap.size W W2 → ∀ nq, _) := fun W2 k3 nq => all_step nq hI h1 hg hpl k3
          clear hI h1 h2 h3 h6 h7 h8 h9 hSx hS hM hL hP hpre HKK hg hok hlk hrt hne hq0 hpl
          gi_wp2_with (refine ⟨trivial, ?_⟩; gi_at_call 9; refine (CallsIn.inRound l (callsIn_wide.2 HRd.out)).mono ?_; rintro e W2 ⟨rfl, B2⟩; obtain ⟨c1, l1, q9⟩ := PS.out W2 B2 0; clear q9)
          refine region_quiet_round (by kernel_rfl) (by kernel_rfl) (by kernel_rfl) ?_
          repeat (gi_big_quiet_step (fail))
          refine wpQuietIn_nil ?_
          intro _ hw'
          obtain ⟨nq, hw''⟩ := hw'
          subst hw''
          obtain ⟨c2, l2, g5, c5, W5, r5, d5, z5, q5⟩ := PS.out W2 B2 nq
          simp only [entV] at r5
          clear PS B2 c2 l2
          gi_wp2_with (gi_at_builtin; refine appIn_runY rfl _ _ 36 rfl _ _ _ _ rfl rfl r5 ?_)
          exact q5.out _
        · obtain ⟨m, hm⟩ : ∃ m, (pre.map valL).length = m + 1 := ⟨(pre.map valL).length - 1, by omega⟩
          obtain ⟨g, cc, hv, hgN, hcell⟩ := h2.seq m (by omega)
          have hlast : (pre.map valL).getLast? = some ((pre.map valL)[m]'(by omega)) := by
            rw [List.getLast?_eq_getElem?, show (pre.map valL).length - 1 = m by omega]
            exact List.getElem?_eq_getElem _
          have hlr : 0 ≤ ((pre.map valL)[m]'(by omega)).q ∧ ((pre.map valL)[m]'(by omega)).q ≤ 1125899906842624 := lastq_bd h3 m (by omega)
          have hne1 : (valL x).q = ((pre.map valL)[m]'(by omega)).q + 1 := by
            unfold lastQ at hlk
            rw [hlast] at hlk
            simpa using hlk
          have hg1 : g < W.heap.size := by
            unfold World.cell? at hcell
            rcases Nat.lt_or_ge g W.heap.size with c | c
            · exact c
            · simp [Array.getElem?_eq_none c] at hcell
          generalize ((pre.map valL)[m]'(by omega)).q = lq at *
          rw [hm] at hv
          subst hv
          have HC2 : Hid (∀ W2, Below W.heap.size W W2 → W2.cell? ⟨g, m * 9, none⟩ = some (.int .i64 lq) ∧ g < W2.heap.size) := fun W2 k3 => ⟨(k3.cell (p := ⟨g, m * 9, none⟩) hg1).trans hcell, by have := k3.size; omega⟩
          have PS : Hid (∀ W2, Below W.heap.size W W2 → ∀ nq, _) := fun W2 k3 nq => all_step nq hI h1 hg hpl k3
          obtain ⟨lq0, lq1⟩ := hlr
          obtain ⟨hz0, hz1⟩ := hq0
          have hw1 : wrap64 (((m + 1 : Nat) : Int) - 1) = (m : Int) := by rw [List.length_map] at hm; unfold wrap64; omega
          have hmn : m < m + 1 := Nat.lt_succ_self m
          have hpn : 0 < m + 1 := Nat.succ_pos m
          have hpd : decide (0 < m + 1) = true := decide_eq_true hpn
          have hmi : (m : Int) < ((m + 1 : Nat) : Int) := by omega
          have hpi : (0 : Int) < ((m + 1 : Nat) : Int) := by omega
          have hnb : ((valL x).q == lq + 1) = true := by simpa using hne1
          clear hI h1 h2 h3 h6 h7 h8 h9 hSx hS hM hL hP hpre HKK hg hok hlk hrt hcell hlast hm hne hne1 hgN hg1 hpl
          generalize hN : m + 1 = N at *
          clear hN
          gi_wp2_with (refine ⟨trivial, ?_⟩; gi_at_call 9; refine (CallsIn.inRound l (callsIn_wide.2 HRd.out)).mono ?_; rintro e W2 ⟨rfl, B2⟩; obtain ⟨c1, l1, q9⟩ := PS.out W2 B2 0; obtain ⟨c3, l3⟩ := HC2.out W2 B2; clear q9 HC2)
          refine region_quiet_round (by kernel_rfl) (by kernel_rfl) (by kernel_rfl) ?_
          repeat (gi_big_quiet_step (fail))
          refine wpQuietIn_nil ?_
          intro _ hw'
          obtain ⟨nq, hw''⟩ := hw'
          subst hw''
          obtain ⟨c2, l2, g5, c5, W5, r5, d5, z5, q5⟩ := PS.out W2 B2 nq
          simp only [entV] at r5
          clear PS B2 c2 l2
          gi_wp2_with (gi_at_builtin; refine appIn_runY rfl _ _ 36 rfl _ _ _ _ rfl rfl r5 ?_)
          exact q5.out _
  case done =>
    intro D W hD hI hK
    refine HKK _ _ ?_
    clear HKK hI0 hc0
    rw [hsz0] at hD
    clear hsz0
    obtain ⟨v, h1, h2, h3, h6, h7, h8, h9⟩ := hI
    obtain ⟨va, vc, hv⟩ := h2.form
    rw [List.length_map] at hv
    subst hv
    have c4 : W.cell? ⟨w.heap.size + 1 + 1, 0, none⟩ = some (.slice va (linesL b).length vc) := ring_cell h1 rfl
    have c2 : W.cell? ⟨w.heap.size, 0, none⟩ = some (.slice none 0 0) := ring_cell h6 rfl
    have z2 : W.frozen? ⟨w.heap.size, 0, none⟩ = false := ring_z h6
    have c3 : W.cell? ⟨w.heap.size + 1, 0, none⟩ = some (.int .i64 0) := ring_cell h7 rfl
    have z3 : W.frozen? ⟨w.heap.size + 1, 0, none⟩ = false := ring_z h7
    gi_wp2
    have hDl := heap_lt hK
    have hK3 : ((W.setCell ⟨w.heap.size, 0, none⟩ (.slice va (linesL b).length vc)).setCell ⟨w.heap.size + 1, 0, none⟩ (.int .i64 0)).heap[D]? = some (.deferred (some [])) := setCell_offY _ _ _ _ (setCell_offY _ _ _ _ hK (by omega)) (by omega)
    have g6a : (W.setCell ⟨w.heap.size, 0, none⟩ (.slice va (linesL b).length vc)).heap[w.heap.size]? = some (.cells #[.slice va (linesL b).length vc] 36) := by rw [ring_set h6]; rfl
    have g7a : ((W.setCell ⟨w.heap.size, 0, none⟩ (.slice va (linesL b).length vc)).setCell ⟨w.heap.size + 1, 0, none⟩ (.int .i64 0)).heap[w.heap.size + 1]? = some (.cells #[.int .i64 0] 26) := by rw [ring_set (setCell_offY _ _ _ _ h7 (by omega))]; rfl
    have g6b : ((W.setCell ⟨w.heap.size, 0, none⟩ (.slice va (linesL b).length vc)).setCell ⟨w.heap.size + 1, 0, none⟩ (.int .i64 0)).heap[w.heap.size]? = some (.cells #[.slice va (linesL b).length vc] 36) := setCell_offY _ _ _ _ g6a (by omega)
    have O3 : OwnE w.heap.size (((W.setCell ⟨w.heap.size, 0, none⟩ (.slice va (linesL b).length vc)).setCell ⟨w.heap.size + 1, 0, none⟩ (.int .i64 0)).putObj D (.deferred none)) (.slice va (linesL b).length vc) ((linesL b).map valL) := (h2.kept (((KpC.set W ⟨w.heap.size, 0, none⟩ _ (by simp)).trans (KpC.set _ ⟨w.heap.size + 1, 0, none⟩ _ (by simp))).trans (KpC.put _ D _ _ hK3 rfl))).mono (by omega)
    have B9 : Below w.heap.size w (((W.setCell ⟨w.heap.size, 0, none⟩ (.slice va (linesL b).length vc)).setCell ⟨w.heap.size + 1, 0, none⟩ (.int .i64 0)).putObj D (.deferred none)) := below_putY ((h8.setCell (p := ⟨w.heap.size, 0, none⟩) (by simp) _).setCell (p := ⟨w.heap.size + 1, 0, none⟩) (by simp) _) D _ (by omega)
    refine ⟨by simp, .inl ⟨_, _, rfl, run_takeDeferred hK3, ?_⟩⟩
    have k6 := put_cellsY (o' := .deferred none) g6b rfl hK3 rfl
    have k7 := put_cellsY (o' := .deferred none) g7a rfl hK3 rfl
    have c6 := ring_cell (i := 0) (v := .slice va (linesL b).length vc) k6 rfl
    have c7 := ring_cell (i := 0) (v := .int .i64 0) k7 rfl
    refine ⟨_, results_cells2Y rfl _ _ _ ⟨w.heap.size, 0, none⟩ ⟨w.heap.size + 1, 0, none⟩ (.slice va (linesL b).length vc) (.int .i64 0) rfl rfl (by simp [loadVar, go_sem, c6]) (by simp [loadVar, go_sem, c7]), ?_⟩
    exact ⟨B9, .inl ⟨h3, _, rfl, O3⟩⟩
  case stop =>
    intro D pre W hD hpre hX hK
    clear HKK hI0 hc0
    rw [hsz0] at hD
    clear hsz0
    obtain ⟨p0, x, h1, h2, h3, h6, h7, h8, h9⟩ := hX
    gi_wp2
    refine ⟨by simp, .inl ⟨_, _, rfl, run_takeDeferred hK, ?_⟩⟩
    have k6 := put_cellsY (o' := .deferred none) h6 rfl hK rfl
    have k7 := put_cellsY (o' := .deferred none) h7 rfl hK rfl
    have c6 : (W.putObj D (.deferred none)).cell? ⟨w.heap.size, 0, none⟩ = some (.slice none 0 0) := ring_cell k6 rfl
    have c7 : (W.putObj D (.deferred none)).cell? ⟨w.heap.size + 1, 0, none⟩ = some (.int .i64 (if okL x = true then 1 else 20)) := ring_cell k7 rfl
    refine ⟨_, results_cells2Y rfl _ _ _ ⟨w.heap.size, 0, none⟩ ⟨w.heap.size + 1, 0, none⟩ (.slice none 0 0) (.int .i64 (if okL x = true then 1 else 20)) rfl rfl (by simp [loadVar, go_sem, c6]) (by simp [loadVar, go_sem, c7]), ?_⟩
    exact ⟨below_putY h8 D _ (by omega), .inr ⟨p0, x, h1 ▸ hpre, h2, h1 ▸ h3, rfl⟩⟩
end Go.Proofs.YtedncmbamjkacaaDoor

/- The words of a line, byte by byte. -/
namespace Go.Proofs.YtedncmbamjkacaaDoor
open Go.RowKit
set_option linter.unusedVariables false

theorem bytes_eqW {a b : ByteArray} (h : a.data.toList = b.data.toList) : a = b := by
  cases a; cases b; congr 1; exact Array.toList_inj.1 h
def piecew (s : ByteArray) : List ByteArray := Lib.splitB ⟨#[32]⟩ 0 (Lib.countB s ⟨#[32]⟩) s
def cutw : List UInt8 → List UInt8 → List (List UInt8)
  | acc, [] => [acc]
  | acc, b :: l => if b = 32 then acc :: cutw [] l else cutw (acc ++ [b]) l
theorem cutw_miss : ∀ (l acc : List UInt8), Lib.index l [32] = -1 → cutw acc l = [acc ++ l]
  | [], acc, _ => by simp [cutw]
  | b :: l, acc, h => by
    rw [Lib.index] at h
    by_cases hb : b = 32
    · subst hb; simp [List.isPrefixOf] at h
    · have hp : ([32] : List UInt8).isPrefixOf (b :: l) = false := by simp [List.isPrefixOf, Ne.symm hb]
      rw [hp] at h
      have hge := Lib.index_ge l [32]
      have hm : Lib.index l [32] = -1 := by
        by_cases e : Lib.index l [32] = -1
        · exact e
        · rw [if_neg (by decide), if_neg (fun q => e (beq_iff_eq.1 q))] at h; omega
      rw [cutw, if_neg hb, cutw_miss l _ hm]; simp
theorem cutw_hit : ∀ (l acc : List UInt8) (i : Nat), Lib.index l [32] = i → cutw acc l = (acc ++ l.take i) :: cutw [] (l.drop (i + 1))
  | [], acc, i, h => by simp [Lib.index] at h
  | b :: l, acc, i, h => by
    rw [Lib.index] at h
    by_cases hb : b = 32
    · subst hb
      have : i = 0 := by simp [List.isPrefixOf] at h; omega
      subst this
      simp [cutw]
    · have hp : ([32] : List UInt8).isPrefixOf (b :: l) = false := by simp [List.isPrefixOf, Ne.symm hb]
      rw [hp, if_neg (by decide)] at h
      have hge := Lib.index_ge l [32]
      by_cases e : Lib.index l [32] = -1
      · rw [if_pos (beq_iff_eq.2 e)] at h; omega
      · rw [if_neg (fun q => e (beq_iff_eq.1 q))] at h
        obtain ⟨j, rfl⟩ : ∃ j, i = j + 1 := ⟨i - 1, by omega⟩
        rw [cutw, if_neg hb, cutw_hit l _ j (by omega)]
        simp
theorem split_cutw : ∀ (k : Nat) (s : ByteArray), Lib.countB s ⟨#[32]⟩ = k → (Lib.splitB ⟨#[32]⟩ 0 k s).map (·.data.toList) = cutw [] s.data.toList
  | 0, s, hk => by
    rcases Lib.indexB_cases s ⟨#[32]⟩ with hix | ⟨i, hix, _⟩
    · rw [cutw_miss _ _ hix]; rfl
    · have := Lib.countB_hit s ⟨#[32]⟩ i (by decide) hix; omega
  | k + 1, s, hk => by
    rcases Lib.indexB_cases s ⟨#[32]⟩ with hix | ⟨i, hix, _⟩
    · rw [Lib.countB_miss s _ hix] at hk; omega
    · rw [Lib.splitB_hit _ 0 k s i hix, List.map_cons, split_cutw k _ (by have := Lib.countB_hit s ⟨#[32]⟩ i (by decide) hix; omega), cutw_hit _ _ i hix, Lib.extract_from_zero, Lib.extract_to_end]
      rfl
theorem piecew_cuts (s : ByteArray) : (piecew s).map (·.data.toList) = cutw [] s.data.toList := split_cutw _ s rfl
theorem piecew_length (s : ByteArray) : (piecew s).length = Lib.countB s ⟨#[32]⟩ + 1 := Lib.splitB_all ⟨#[32]⟩ (by decide) 0 _ s rfl
theorem cutw_len : ∀ (l acc : List UInt8), ∀ p ∈ cutw acc l, p.length ≤ acc.length + l.length
  | [], acc, p, h => by
    rw [cutw, List.mem_singleton] at h
    rw [h]; simp
  | b :: l, acc, p, h => by
    rw [cutw] at h
    split at h
    · cases h with
      | head => simp
      | tail _ h => have := cutw_len l [] p h; simp at this ⊢; omega
    · have := cutw_len l (acc ++ [b]) p h
      simp at this ⊢; omega
theorem piecew_size (s : ByteArray) : ∀ p ∈ piecew s, p.size ≤ s.size := by
  intro p hp
  have h : p.data.toList ∈ cutw [] s.data.toList := by rw [← piecew_cuts]; exact List.mem_map.2 ⟨p, hp, rfl⟩
  have k := cutw_len _ _ _ h
  have k2 : p.size = p.data.toList.length := rfl
  have k3 : s.size = s.data.toList.length := rfl
  simp at k k2 k3
  omega
theorem map_data_injW {a b : List ByteArray} (h : a.map (·.data.toList) = b.map (·.data.toList)) : a = b := by
  induction a generalizing b with
  | nil => cases b with
    | nil => rfl
    | cons _ _ => cases h
  | cons x a ih => cases b with
    | nil => cases h
    | cons y b =>
      rw [List.map_cons, List.map_cons] at h
      injection h with h1 h2
      rw [bytes_eqW h1, ih h2]

/-- How far the reference has come: the parts that it has cut, where the next begins, and where it stands. -/
def ScanW (s : ByteArray) (ps : List ByteArray) (f k : Nat) : Prop := f ≤ k ∧ k ≤ s.size ∧ ps.map (·.data.toList) ++ cutw ((s.data.toList.take k).drop f) (s.data.toList.drop k) = cutw [] s.data.toList
theorem ScanW.start (s : ByteArray) : ScanW s [] 0 0 := ⟨Nat.le_refl _, Nat.zero_le _, by simp⟩
theorem ScanW.go {s : ByteArray} {ps : List ByteArray} {f k : Nat} (h : ScanW s ps f k) (hk : k < s.size) (hb : s[k] ≠ 32) : ScanW s ps f (k + 1) := by
  obtain ⟨h1, _, h3⟩ := h
  have hk' : k < s.data.toList.length := hk
  refine ⟨by omega, hk, ?_⟩
  rw [List.drop_eq_getElem_cons hk', cutw, if_neg (show s.data.toList[k] ≠ 32 from hb)] at h3
  rw [← h3, List.take_succ_eq_append_getElem hk', List.drop_append_of_le_length (by rw [List.length_take]; omega)]
theorem ScanW.cut {s : ByteArray} {ps : List ByteArray} {f k : Nat} (h : ScanW s ps f k) (hk : k < s.size) (hb : s[k] = 32) : ScanW s (ps ++ [s.extract f k]) (k + 1) (k + 1) := by
  obtain ⟨h1, _, h3⟩ := h
  have hk' : k < s.data.toList.length := hk
  refine ⟨Nat.le_refl _, hk, ?_⟩
  rw [List.drop_eq_getElem_cons hk', cutw, if_pos (show s.data.toList[k] = 32 from hb)] at h3
  have hd : List.drop (k + 1) (List.take (k + 1) s.data.toList) = [] := List.drop_eq_nil_of_le (by rw [List.length_take]; omega)
  rw [← h3, hd, List.map_append, List.map_cons, List.map_nil, Lib.extract_data, ← List.drop_take, List.append_assoc, List.singleton_append]
theorem ScanW.fin {s : ByteArray} {ps : List ByteArray} {f : Nat} (h : ScanW s ps f s.size) : ps ++ [s.extract f s.size] = piecew s := by
  obtain ⟨h1, _, h3⟩ := h
  have hd : List.drop s.size s.data.toList = [] := List.drop_eq_nil_of_le (Nat.le_refl _)
  rw [hd, cutw] at h3
  refine map_data_injW ?_
  rw [piecew_cuts, ← h3, List.map_append, List.map_cons, List.map_nil, Lib.extract_data, List.drop_take]
end Go.Proofs.YtedncmbamjkacaaDoor

/- Words joined by blanks are cut again into them. -/
namespace Go.Proofs.YtedncmbamjkacaaDoor
open Go.RowKit
set_option linter.unusedVariables false

theorem cutw_piece : ∀ (x acc l : List UInt8), 32 ∉ x → cutw acc (x ++ 32 :: l) = (acc ++ x) :: cutw [] l
  | [], acc, l, _ => by simp [cutw]
  | b :: x, acc, l, h => by
    have hb : b ≠ 32 := fun e => h (by rw [e]; exact List.mem_cons_self)
    rw [List.cons_append, cutw, if_neg hb, cutw_piece x _ l (fun e => h (List.mem_cons_of_mem _ e))]
    simp
theorem cutw_last : ∀ (x acc : List UInt8), 32 ∉ x → cutw acc x = [acc ++ x]
  | [], acc, _ => by simp [cutw]
  | b :: x, acc, h => by
    have hb : b ≠ 32 := fun e => h (by rw [e]; exact List.mem_cons_self)
    rw [cutw, if_neg hb, cutw_last x _ (fun e => h (List.mem_cons_of_mem _ e))]
    simp
theorem joinT_cons (y : List UInt8) (r : List (List UInt8)) : Lib.joinTail [32] (y :: r) = 32 :: (y ++ Lib.joinTail [32] r) := by
  unfold Lib.joinTail
  rw [List.map_cons, List.flatten_cons]
  simp
theorem cutw_all : ∀ (r : List (List UInt8)) (x : List UInt8), 32 ∉ x → (∀ y ∈ r, (32 : UInt8) ∉ y) → cutw [] (x ++ Lib.joinTail [32] r) = x :: r
  | [], x, h, _ => by
    have e : Lib.joinTail [32] [] = [] := rfl
    rw [e, List.append_nil, cutw_last _ _ h]
    rfl
  | y :: r, x, h, hr => by
    rw [joinT_cons, cutw_piece _ _ _ h, cutw_all r y (hr y List.mem_cons_self) (fun z hz => hr z (List.mem_cons_of_mem _ hz))]
    rfl
end Go.Proofs.YtedncmbamjkacaaDoor

/- The reference's telling of a number that isn't below 0. -/
namespace Go.Proofs.YtedncmbamjkacaaDoor
open Go.RowKit
set_option linter.unusedVariables false

theorem rx_dec_small {u : Nat} (h : u < 10) : Lib.decDigits u = [UInt8.ofNat (48 + u)] := by rw [Lib.decDigits, dif_pos h]
theorem rx_dec_big {u : Nat} (h : ¬ u < 10) : Lib.decDigits u = Lib.decDigits (u / 10) ++ [UInt8.ofNat (48 + u % 10)] := by rw [Lib.decDigits, dif_neg h]
/-- How far the reference has come: what is left of the number, what is told already. -/
def RxJ (n u : Nat) (acc : List UInt8) : Prop := (acc = [] ∧ u = n) ∨ (acc ≠ [] ∧ Lib.decDigits n = (if u = 0 then [] else Lib.decDigits u) ++ acc)
theorem rx_JD_step {n u : Nat} {acc : List UInt8} (h : RxJ n u acc) (c : acc = [] ∨ 0 < u) : RxJ n (u / 10) (UInt8.ofNat (48 + u % 10) :: acc) := by
  refine .inr ⟨by simp, ?_⟩
  have key : Lib.decDigits u = (if u / 10 = 0 then [] else Lib.decDigits (u / 10)) ++ [UInt8.ofNat (48 + u % 10)] := by
    by_cases k : u < 10
    · rw [rx_dec_small k, if_pos (by omega), Nat.mod_eq_of_lt k]; rfl
    · rw [rx_dec_big k, if_neg (by omega)]
  rcases h with ⟨rfl, rfl⟩ | ⟨h1, h2⟩
  · exact key
  · have hu : 0 < u := by
      rcases c with c | c
      · exact absurd c h1
      · exact c
    rw [h2, if_neg (by omega), key, List.append_assoc]; rfl
theorem rx_JD_end {n : Nat} {acc : List UInt8} (h : RxJ n 0 acc) (c : acc ≠ []) : acc = Lib.decDigits n := by
  rcases h with ⟨h1, _⟩ | ⟨_, h2⟩
  · exact absurd h1 c
  · rw [h2]; rfl
theorem rx_ret_s {a b : ByteArray} (h : a = b) : Ending.returned (.string a) = .returned (.string b) := by rw [h]
theorem rx_bytes_ext {a : ByteArray} {l : List UInt8} (h : a.data.toList = l) : a = ⟨l.toArray⟩ := by
  obtain ⟨⟨l'⟩⟩ := a
  simp at h
  rw [h]
theorem rx_cons_data (b : UInt8) (o : ByteArray) : ((⟨#[b]⟩ : ByteArray) ++ o).data.toList = b :: o.data.toList := by
  rw [Joins.data_append]; rfl
theorem rx_conv1 (W : World) (x : Int) (b : UInt8) (h : (b.toNat : Int) = x) : (convert 25 9 (.slice (some ⟨W.heap.size, 0, none⟩) 1 1)).run Tryd.prog (W.alloc (.cells #[.int .u8 x] 5)) = .ok (.string ⟨#[b]⟩) (W.alloc (.cells #[.int .u8 x] 5)) := by
  have k := run_convert_bytes_back (P := Tryd.prog) (W.alloc (.cells #[.int .u8 x] 5)) 25 9 5 ⟨W.heap.size, 0, none⟩ 1 [b] Tryd.underlying25 Tryd.underlying5 Tryd.underlying9 (fun j hj => by
    obtain rfl : j = 0 := by simpa using hj
    rw [Lib.add_plain]
    exact tblk_cell (tblk_new _ _) (by simp [h]))
  exact k
def rxM (vn vo : Value) : Nat := (intOf vn).toNat + (match vo with | .string o => if o.size = 0 then 1 else 0 | _ => 0)
theorem rx_msr_lt {u u' : Nat} {o o' : ByteArray} (h : o.size = 0 ∨ 0 < u) (hu : u' ≤ u) (hd : 0 < u → u' < u) (ho : ¬ o'.size = 0) : rxM (.int .i64 u') (.string o') < rxM (.int .i64 u) (.string o) := by
  unfold rxM intOf
  simp only [Int.toNat_natCast]
  rw [if_neg ho]
  rcases h with h | h
  · rw [if_pos h]; omega
  · have := hd h; split <;> omega
theorem rx_cons_size (b : UInt8) (o : ByteArray) : ¬ ((⟨#[b]⟩ : ByteArray) ++ o).size = 0 := by
  have h : ((⟨#[b]⟩ : ByteArray) ++ o).data.toList.length ≠ 0 := by rw [rx_cons_data]; simp
  exact h
theorem rx_wrap64_in (x : Int) (h0 : 0 ≤ x) (h1 : x < 9223372036854775808) : wrap64 x = x := by unfold wrap64; omega
theorem rx_cons_size1 (b : UInt8) (o : ByteArray) : ((⟨#[b]⟩ : ByteArray) ++ o).size = o.size + 1 := by
  have h : ((⟨#[b]⟩ : ByteArray) ++ o).data.toList.length = o.data.toList.length + 1 := by rw [rx_cons_data]; simp
  exact h
theorem rx_u8_48 (d : Nat) (h : d < 200) : ((UInt8.ofNat (48 + d)).toNat : Int) = 48 + (d : Int) := by
  rw [UInt8.toNat_ofNat']; omega


set_option maxRecDepth 100000 in
set_option maxHeartbeats 4000000 in
theorem rtext_nat (n : Nat) (hn : n < 9223372036854775808) (w : World) :
    Calls Tryd.prog 27 #[.int .i64 n] w fun e w' => e = .returned (.string ⟨(Lib.decDigits n).toArray⟩) ∧ Below w.heap.size w w' := by
  have hne : ((n : Int) == -9223372036854775808) = false := beq_eq_false_iff_ne.2 (by omega)
  have h0 : ¬ (n : Int) < 0 := by omega
  go_enter Tryd.func27, Tryd.ntmps27
  go_wp2_with fail
  clear hne h0
  go_loopw [0, 3] (fun vn vo wr => ∃ (u f : Nat) (o : ByteArray), vn = .int .i64 u ∧ vo = .string o ∧ u < 9223372036854775808 ∧ f + o.size ≤ 20 ∧ Hid (u < 10 ^ f) ∧ Hid (RxJ n u o.data.toList) ∧ Below w.heap.size w wr) (fun vn vo _ => rxM vn vo)
  case atStart => exact ⟨n, 19, ⟨#[]⟩, rfl, rfl, hn, by decide, Nat.lt_of_lt_of_le hn (by decide), .inl ⟨rfl, rfl⟩, Below.refl _ _⟩
  case round =>
    obtain ⟨u, f, o, rfl, rfl, hu, hfo, hf, hj, hB⟩ := hrel
    have HU : Hid (u < 9223372036854775808) := hu
    clear hu
    have ho : (o.size : Int) ≤ 20 := by omega
    have HN : Hid (n < 9223372036854775808) := hn
    clear hn
    obtain ⟨b, hb1, hb2⟩ : ∃ b : UInt8, (b.toNat : Int) = 48 + (u : Int) % 10 ∧ b = UInt8.ofNat (48 + u % 10) := ⟨_, by rw [rx_u8_48 _ (by omega)]; omega, rfl⟩
    by_cases hz : o.size = 0
    · have hcv := rx_conv1 wr (48 + (u : Int) % 10) b hb1
      have hcat := fun W : World => run_string_add (P := Tryd.prog) (w := W) ⟨#[b]⟩ o (show ((1 : Nat) : Int) ≤ 8388608 by decide) (by omega)
      have HS : Hid (RxJ n (u / 10) ((⟨#[b]⟩ : ByteArray) ++ o).data.toList) := by
        rw [Hid, rx_cons_data, hb2]; exact rx_JD_step hj.out (.inl (List.eq_nil_of_length_eq_zero hz))
      have HF : Hid (∃ f', f' + ((⟨#[b]⟩ : ByteArray) ++ o).size ≤ 20 ∧ u / 10 < 10 ^ f') := by
        rw [Hid, rx_cons_size1]
        have h := hf.out
        cases f with
        | zero => exact ⟨0, by omega, by have : u < 1 := h; omega⟩
        | succ f' => exact ⟨f', by omega, by rw [Nat.pow_succ, Nat.mul_comm] at h; exact Nat.div_lt_of_lt_mul h⟩
      have HM : Hid (rxM (.int .i64 ((u / 10 : Nat) : Int)) (.string ((⟨#[b]⟩ : ByteArray) ++ o)) < rxM (.int .i64 (u : Int)) (.string o)) := rx_msr_lt (.inl hz) (by omega) (fun h => by omega) (rx_cons_size _ _)
      clear hb1 hb2
      have he := empty_of hz
      subst he
      go_wp2
      go_roundw
      case rel => obtain ⟨f', q1, q2⟩ := HF.out; have hu := HU.out; exact ⟨u / 10, f', _, by rw [rx_wrap64_in _ (by omega) (by omega)]; go_num, rfl, by omega, q1, q2, HS, hB.alloc hB.size _⟩
      case measure => have hu := HU.out; rw [rx_wrap64_in _ (by omega) (by omega)]; exact HM.out
    · by_cases hpos : (0 : Int) < (u : Int)
      · have hcv := rx_conv1 wr (48 + (u : Int) % 10) b hb1
        have hcat := fun W : World => run_string_add (P := Tryd.prog) (w := W) ⟨#[b]⟩ o (show ((1 : Nat) : Int) ≤ 8388608 by decide) (by omega)
        have HS : Hid (RxJ n (u / 10) ((⟨#[b]⟩ : ByteArray) ++ o).data.toList) := by
          rw [Hid, rx_cons_data, hb2]; exact rx_JD_step hj.out (.inr (by omega))
        have HF : Hid (∃ f', f' + ((⟨#[b]⟩ : ByteArray) ++ o).size ≤ 20 ∧ u / 10 < 10 ^ f') := by
          rw [Hid, rx_cons_size1]
          have h := hf.out
          cases f with
          | zero => exact ⟨0, by have : u < 1 := h; omega, by have : u < 1 := h; omega⟩
          | succ f' => exact ⟨f', by omega, by rw [Nat.pow_succ, Nat.mul_comm] at h; exact Nat.div_lt_of_lt_mul h⟩
        have HM : Hid (rxM (.int .i64 ((u / 10 : Nat) : Int)) (.string ((⟨#[b]⟩ : ByteArray) ++ o)) < rxM (.int .i64 (u : Int)) (.string o)) := rx_msr_lt (.inr (by omega)) (by omega) (fun h => by omega) (rx_cons_size _ _)
        clear hb1 hb2
        have hne2 := isEmpty_of hz
        clear hz
        go_wp2
        go_roundw
        case rel => obtain ⟨f', q1, q2⟩ := HF.out; have hu := HU.out; exact ⟨u / 10, f', _, by rw [rx_wrap64_in _ (by omega) (by omega)]; go_num, rfl, by omega, q1, q2, HS, hB.alloc hB.size _⟩
        case measure => have hu := HU.out; rw [rx_wrap64_in _ (by omega) (by omega)]; exact HM.out
      · have hu0 : u = 0 := by omega
        have HE : Hid (o = ⟨(Lib.decDigits n).toArray⟩) := by
          have h := hj.out
          rw [hu0] at h
          exact rx_bytes_ext (rx_JD_end h (fun e => hz (congrArg List.length e)))
        have hne2 := isEmpty_of hz
        clear hz hb1 hb2
        go_wp2
        go_ret
        exact ⟨rx_ret_s HE.out, hB⟩
theorem itoa_nat (n : Nat) : itoaS (n : Int) = ⟨(Lib.decDigits n).toArray⟩ := by
  unfold itoaS Lib.itoa
  rw [if_neg (by omega), Int.toNat_natCast]
theorem rtext_pos (n : Int) (h0 : 0 ≤ n) (h1 : n < 9223372036854775808) (w : World) : Calls Tryd.prog 27 #[.int .i64 n] w fun e w' => e = .returned (.string (itoaS n)) ∧ Below w.heap.size w w' := by
  obtain ⟨k, rfl⟩ : ∃ k : Nat, n = k := ⟨n.toNat, by omega⟩
  rw [itoa_nat]
  exact rtext_nat k (by omega) w
end Go.Proofs.YtedncmbamjkacaaDoor

/- What is told of a right record is read as it (plain). -/
namespace Go.Proofs.YtedncmbamjkacaaDoor
open Go.RowKit
set_option linter.unusedVariables false

theorem dec_small_vN : ∀ d : Fin 10, vN 10 [UInt8.ofNat (48 + d.val)] = some d.val := by decide +kernel
theorem dec_step : ∀ d : Fin 10, dgN (UInt8.ofNat (48 + d.val)) = d.val := by decide +kernel
theorem dec_vN (u : Nat) : vN 10 (Lib.decDigits u) = some u := by
  induction u using Nat.strongRecOn with
  | ind u ih =>
    by_cases h : u < 10
    · rw [rx_dec_small h]; exact dec_small_vN ⟨u, h⟩
    · rw [rx_dec_big h, vN_snoc, ih (u / 10) (by omega)]
      have e := dec_step ⟨u % 10, by omega⟩
      simp only at e
      unfold stepV
      simp only [e]
      rw [Option.bind_some, if_pos (by omega)]
      congr 1
      omega
theorem dec_len : ∀ (k u : Nat), u < 10 ^ (k + 1) → (Lib.decDigits u).length ≤ k + 1
  | 0, u, h => by rw [rx_dec_small (by simpa using h)]; simp
  | k + 1, u, h => by
    by_cases c : u < 10
    · rw [rx_dec_small c]; simp
    · rw [rx_dec_big c, List.length_append]
      have := dec_len k (u / 10) (by rw [Nat.pow_succ] at h; omega)
      simp only [List.length_cons, List.length_nil]
      omega
theorem dec_pos (u : Nat) : 0 < (Lib.decDigits u).length := by
  by_cases c : u < 10
  · rw [rx_dec_small c]; simp
  · rw [rx_dec_big c, List.length_append]; simp
theorem dec_ge (u : Nat) : ∀ b ∈ Lib.decDigits u, 48 ≤ b.toNat := by
  have one : ∀ d : Nat, d < 10 → 48 ≤ (UInt8.ofNat (48 + d)).toNat := fun d hd => by rw [UInt8.toNat_ofNat']; omega
  induction u using Nat.strongRecOn with
  | ind u ih =>
    by_cases h : u < 10
    · rw [rx_dec_small h]
      intro b hb
      rw [List.mem_singleton] at hb
      rw [hb]; exact one u h
    · rw [rx_dec_big h]
      intro b hb
      rcases List.mem_append.1 hb with hb | hb
      · exact ih (u / 10) (by omega) b hb
      · rw [List.mem_singleton] at hb
        rw [hb]; exact one _ (by omega)
theorem itoa_dec (z : Int) (h : 0 ≤ z) : (itoaS z).data.toList = Lib.decDigits z.toNat := by
  unfold itoaS Lib.itoa
  rw [if_neg (by omega)]
theorem itoa_num (z : Int) (h0 : 0 ≤ z) (h1 : z < 1000000000000000000) : numI 10 18 (itoaS z) = z ∧ numB 10 18 (itoaS z) = true := by
  have hd := itoa_dec z h0
  have hl : (itoaS z).size = (Lib.decDigits z.toNat).length := by rw [← hd]; rfl
  have k := dec_len 17 z.toNat (by have : (10 : Nat) ^ (17 + 1) = 1000000000000000000 := by decide
                                   omega)
  have p := dec_pos z.toNat
  have q := num_ok (base := 10) (most := 18) (s := itoaS z) (n := z.toNat) (by omega) (by rw [hd]; exact dec_vN _)
  exact ⟨by rw [q.1]; omega, q.2⟩
theorem itoa_clean (z : Int) (h0 : 0 ≤ z) : (10 : UInt8) ∉ (itoaS z).data.toList ∧ (32 : UInt8) ∉ (itoaS z).data.toList := by
  rw [itoa_dec z h0]
  exact ⟨fun hb => absurd (dec_ge _ _ hb) (by decide), fun hb => absurd (dec_ge _ _ hb) (by decide)⟩
theorem allB_mem {p : Int → Bool} {l : List UInt8} (h : allB p l = true) : ∀ b ∈ l, p (b.toNat : Int) = true := by
  intro b hb
  unfold allB at h
  exact List.all_eq_true.1 h b hb
theorem tok_clean {s : ByteArray} (h : tokS s = true) : (10 : UInt8) ∉ s.data.toList ∧ (32 : UInt8) ∉ s.data.toList := by
  unfold tokS at h
  rw [Bool.and_eq_true] at h
  exact ⟨fun hb => absurd (allB_mem h.1 _ hb) (by decide), fun hb => absurd (allB_mem h.1 _ hb) (by decide)⟩
theorem tgt_clean {s : ByteArray} (h : tgtP s = true) : (10 : UInt8) ∉ s.data.toList ∧ (32 : UInt8) ∉ s.data.toList := by
  unfold tgtP at h
  rw [Bool.and_eq_true] at h
  exact ⟨fun hb => absurd (allB_mem h.1 _ hb) (by decide), fun hb => absurd (allB_mem h.1 _ hb) (by decide)⟩
theorem words_clean {e : EntP} (h : rightE e = true) : ∀ p ∈ wordsE e, (10 : UInt8) ∉ p.data.toList ∧ (32 : UInt8) ∉ p.data.toList := by
  obtain ⟨h1, _, _, h4, h5⟩ := right_bd h
  intro p hp
  unfold wordsE at hp
  simp only [List.mem_append, List.mem_map, List.mem_cons, List.not_mem_nil, or_false] at hp
  rcases hp with (⟨z, hz, rfl⟩ | rfl | rfl) | ⟨z, hz, rfl⟩
  · exact itoa_clean z (h1 z ((List.take_sublist _ _).subset hz)).1
  · exact tok_clean h4
  · exact tgt_clean h5
  · exact itoa_clean z (h1 z ((List.drop_sublist _ _).subset hz)).1
/-- Cut into at most ten. -/
theorem split_le : ∀ (k : Nat) (s : ByteArray), Lib.countB s ⟨#[32]⟩ ≤ k → (Lib.splitB ⟨#[32]⟩ 0 k s).map (·.data.toList) = cutw [] s.data.toList
  | 0, s, hk => split_cutw 0 s (by omega)
  | k + 1, s, hk => by
    rcases Lib.indexB_cases s ⟨#[32]⟩ with hix | ⟨i, hix, _⟩
    · rw [cutw_miss _ _ hix, Lib.splitB, if_pos (by simpa using hix)]; rfl
    · rw [Lib.splitB_hit _ 0 k s i hix, List.map_cons, split_le k _ (by have := Lib.countB_hit s ⟨#[32]⟩ i (by decide) hix; omega), cutw_hit _ _ i hix, Lib.extract_from_zero, Lib.extract_to_end]
      rfl
theorem p10_cut (s : ByteArray) (h : (cutw [] s.data.toList).length ≤ 10) : (p10 s).map (·.data.toList) = cutw [] s.data.toList := by
  have hc : Lib.countB s ⟨#[32]⟩ + 1 = (cutw [] s.data.toList).length := by rw [← piecew_length, ← List.length_map (f := fun x : ByteArray => x.data.toList), piecew_cuts]
  have hs : Lib.countB s ⟨#[32]⟩ ≤ s.size := Lib.countB_le ⟨#[32]⟩ (by decide) s.size s (Nat.le_refl _)
  unfold p10
  exact split_le _ s (by omega)
theorem join_data (e : EntP) : lineL e = Lib.join ((wordsE e).map (·.data.toList)) [32] ++ [10] := rfl
theorem words_back {e : EntP} (h : rightE e = true) : p10 ⟨(Lib.join ((wordsE e).map (·.data.toList)) [32]).toArray⟩ = wordsE e := by
  have hc := words_clean h
  have hd : (⟨(Lib.join ((wordsE e).map (·.data.toList)) [32]).toArray⟩ : ByteArray).data.toList = Lib.join ((wordsE e).map (·.data.toList)) [32] := rfl
  have key : cutw [] (Lib.join ((wordsE e).map (·.data.toList)) [32]) = (wordsE e).map (·.data.toList) := by
    cases hw : (wordsE e).map (·.data.toList) with
    | nil => exact absurd (congrArg List.length hw) (by rw [List.length_map, wordsE_len]; decide)
    | cons x r =>
      rw [Lib.join_cons]
      have hm : ∀ y ∈ x :: r, (32 : UInt8) ∉ y := fun y hy => by
        rw [← hw] at hy
        obtain ⟨p, hp, rfl⟩ := List.mem_map.1 hy
        exact (hc p hp).2
      exact cutw_all r x (hm x List.mem_cons_self) (fun y hy => hm y (List.mem_cons_of_mem _ hy))
  have k := p10_cut ⟨(Lib.join ((wordsE e).map (·.data.toList)) [32]).toArray⟩ (by rw [hd, key, List.length_map, wordsE_len]; decide)
  rw [hd, key] at k
  exact map_data_injW k
theorem trim_line (l : List UInt8) : trimR ⟨(l ++ [10]).toArray⟩ = ⟨l.toArray⟩ := by
  have h : Lib.trimSuffix (l ++ [10]) [10] = l := by
    unfold Lib.trimSuffix
    rw [if_pos (by unfold Lib.hasSuffix; simp)]
    simp
  show (⟨(Lib.trimSuffix (l ++ [10]) [10]).toArray⟩ : ByteArray) = _
  rw [h]
theorem read_back {e : EntP} (h : rightE e = true) : okR (lineB e) = true ∧ valR (lineB e) = e := by
  obtain ⟨h1, h2, h3, h4, h5⟩ := right_bd h
  have ht : trimR (lineB e) = ⟨(Lib.join ((wordsE e).map (·.data.toList)) [32]).toArray⟩ := trim_line _
  have hw := words_back h
  have nm : ∀ z ∈ numsE e, numI 10 18 (itoaS z) = z ∧ numB 10 18 (itoaS z) = true := fun z hz => itoa_num z (h1 z hz).1 (by have := (h1 z hz).2; omega)
  have hok : okW (wordsE e) = true := by
    unfold okW
    rw [List.all_eq_true]
    intro p hp
    have : digW (wordsE e) = (numsE e).map itoaS := rfl
    rw [this] at hp
    obtain ⟨z, hz, rfl⟩ := List.mem_map.1 hp
    exact (nm z hz).2
  have hen : entW (wordsE e) = e := by
    obtain ⟨q, a, k, n, m, t, c, u, d⟩ := e
    have n0 := (nm q (by unfold numsE; simp)).1
    have n1 := (nm a (by unfold numsE; simp)).1
    have n2 := (nm k (by unfold numsE; simp)).1
    have n3 := (nm n (by unfold numsE; simp)).1
    have n4 := (nm c (by unfold numsE; simp)).1
    have n5 := (nm u (by unfold numsE; simp)).1
    have n6 := (nm d (by unfold numsE; simp)).1
    show (⟨numI 10 18 (itoaS q), numI 10 18 (itoaS a), numI 10 18 (itoaS k), numI 10 18 (itoaS n), m, t, numI 10 18 (itoaS c), numI 10 18 (itoaS u), numI 10 18 (itoaS d)⟩ : EntP) = _
    rw [n0, n1, n2, n3, n4, n5, n6]
  have hpe : parE (trimR (lineB e)) = true := by
    unfold parE
    rw [ht, hw, hok, decide_eq_true (wordsE_len e)]; rfl
  have hpv : parV (trimR (lineB e)) = e := by
    unfold parV
    rw [if_pos hpe, ht, hw, hen]
  have hk : okR (lineB e) = true := by
    unfold okR
    rw [hpe, hpv, h]
    show (true && (true && (lineL e == lineL e))) = true
    rw [beq_self_eq_true]; rfl
  refine ⟨hk, ?_⟩
  unfold valR
  rw [if_pos hk, hpv]
theorem line_inj {a b : EntP} (ha : rightE a = true) (hb : rightE b = true) (h : lineL a = lineL b) : a = b := by
  have e : lineB a = lineB b := by unfold lineB; rw [h]
  rw [← (read_back ha).2, ← (read_back hb).2, e]
/-- A line that is read is written again. -/
theorem read_line {x : ByteArray} (h : okR x = true) : rightE (valR x) = true ∧ lineL (valR x) = x.data.toList := by
  unfold valR
  rw [if_pos h]
  unfold okR at h
  simp only [Bool.and_eq_true, beq_iff_eq] at h
  exact ⟨h.2.1, h.2.2⟩
end Go.Proofs.YtedncmbamjkacaaDoor

/- The document's example of a record answers as it should. -/
namespace Go.Proofs.YtedncmbamjkacaaDoor
open Go.RowKit
set_option linter.unusedVariables false

def exE : EntP := ⟨1, 5, 2, 7, ⟨#[71, 69, 84]⟩, ⟨#[47, 97]⟩, 200, 1, 30⟩
def exLn : List UInt8 := [49, 32, 53, 32, 50, 32, 55, 32, 71, 69, 84, 32, 47, 97, 32, 50, 48, 48, 32, 49, 32, 51, 48, 10]
theorem ex_right : rightE exE = true := by kernel_rfl
theorem ex_line : lineL exE = exLn := by kernel_rfl
theorem ex_zero : rightE zeroE = false := by kernel_rfl
theorem ex_bad : okR ⟨#[49, 32, 50, 10]⟩ = false := by kernel_rfl
theorem ex_lines : linesL exLn = [exLn] := by kernel_rfl
theorem ex_ok : okL exLn = true ∧ valL exLn = exE := by
  have h := read_back ex_right
  have e : lineB exE = ⟨exLn.toArray⟩ := by unfold lineB; rw [ex_line]
  rw [e] at h
  exact h
theorem ex_good : goodB (linesL exLn) = true := by
  rw [ex_lines]
  unfold goodB
  rw [List.all_cons, ex_ok.1]; rfl
/-- What the tables must hold. -/
structure AlE (w : World) : Prop where
  m : MaxL w
  l : LmT w
  p : PowT w
theorem AlE.below {w w' : World} (h : AlE w) (b : Below w.heap.size w w') : AlE w' := ⟨h.m.below b, h.l.below b, h.p.below b⟩
def exV : Array Value := #[.int .i64 1, .int .i64 5, .int .i64 2, .int .i64 7, .string ⟨#[71, 69, 84]⟩, .string ⟨#[47, 97]⟩, .int .i64 200, .int .i64 1, .int .i64 30]
theorem ex_same (W : World) : (binOp .eql 23 (.agg exV) (.agg exV)).run Tryd.prog W = .ok (.bool true) W := by kernel_rfl
theorem ex_write (w : World) (h : AlE w) : Calls Tryd.prog 6 #[.agg exV] w fun r w' => ∃ a c k, r = .returned (.tuple #[.slice a 24 c, .int .i64 0]) ∧ Src w' k (.slice a 24 c) exLn ∧ k < w'.heap.size ∧ Below w.heap.size w w' := by
  refine (enwrite_any exE w (by unfold maxLen; decide) (by unfold maxLen; decide) h.l h.p).mono fun r w' hq => ?_
  unfold WrR at hq
  rw [if_pos ex_right, ex_line] at hq
  obtain ⟨a, c, k, e, hS, h1, h2, B⟩ := hq
  exact ⟨a, c, k, e, hS, h2, B⟩
theorem ex_read (w : World) (h : AlE w) (a : Option Addr) (c k : Nat) (hS : Src w k (.slice a 24 c) exLn) (hk : k < w.heap.size) : Calls Tryd.prog 9 #[.slice a 24 c] w fun r w' => r = .returned (.tuple #[.agg exV, .int .i64 0]) ∧ Below w.heap.size w w' := by
  refine (enread_any exLn k a 24 c w hS (fun _ => hk) (by decide) h.m h.l h.p).mono fun r w' hq => ?_
  have e1 : valR ⟨exLn.toArray⟩ = exE := ex_ok.2
  have e2 : codR ⟨exLn.toArray⟩ = 0 := by unfold codR; rw [if_pos (show okR ⟨exLn.toArray⟩ = true from ex_ok.1)]
  rw [e1, e2] at hq
  exact hq
theorem ex_read2 (w : World) (h : AlE w) (a : Option Addr) (c k : Nat) (hS : Src w k (.slice a 4 c) [49, 32, 50, 10]) (hk : k < w.heap.size) : Calls Tryd.prog 9 #[.slice a 4 c] w fun r w' => r = .returned (.tuple #[.agg (entV zeroE), .int .i64 20]) ∧ Below w.heap.size w w' := by
  refine (enread_any [49, 32, 50, 10] k a 4 c w hS (fun _ => hk) (by decide) h.m h.l h.p).mono fun r w' hq => ?_
  have e1 : valR ⟨[49, 32, 50, 10].toArray⟩ = zeroE := by unfold valR; rw [if_neg (by rw [ex_bad]; decide)]
  have e2 : codR ⟨[49, 32, 50, 10].toArray⟩ = 20 := by unfold codR; rw [if_neg (by rw [ex_bad]; decide)]
  rw [e1, e2] at hq
  exact hq
theorem ex_all (w : World) (h : AlE w) (a : Option Addr) (c k : Nat) (hS : Src w k (.slice a 24 c) exLn) (hk : k < w.heap.size) : Calls Tryd.prog 13 #[.slice a 24 c] w fun r w' => ∃ va vc, r = .returned (.tuple #[.slice va 1 vc, .int .i64 0]) ∧ Below w.heap.size w w' := by
  refine (enall_any exLn k a 24 c w hS hk (by decide) h.m h.l h.p).mono fun r w' hq => ?_
  obtain ⟨B, ⟨_, v, rfl, O⟩ | ⟨pre, x, h1, h2, h3, _⟩⟩ := hq
  · obtain ⟨va, vc, hv⟩ := O.form
    rw [ex_lines] at hv
    exact ⟨va, vc, by rw [hv]; rfl, B⟩
  · exfalso
    rw [ex_lines] at h1
    have hl := h1.length_le
    rw [List.length_append] at hl
    have hp : pre = [] := List.eq_nil_of_length_eq_zero (by simp only [List.length_cons, List.length_nil] at hl; omega)
    subst hp
    obtain ⟨t, ht⟩ := h1
    have : x = exLn := by
      have := congrArg List.head? ht
      simpa using this
    subst this
    have g := ex_good
    rw [ex_lines] at g
    rw [List.nil_append, g] at h3
    cases h3
theorem ex_right_any (w : World) (h : AlE w) : Calls Tryd.prog 7 #[.agg exV] w fun r w' => r = .returned (.bool true) ∧ Below w.heap.size w w' := by
  have k := enright_any exE w (by unfold maxLen; decide) (by unfold maxLen; decide) h.l
  rw [ex_right] at k
  exact k
theorem ex_zero_any (w : World) (h : AlE w) : Calls Tryd.prog 7 #[.agg (entV zeroE)] w fun r w' => r = .returned (.bool false) ∧ Below w.heap.size w w' := by
  have k := enright_any zeroE w (by unfold maxLen; decide) (by unfold maxLen; decide) h.l
  rw [ex_zero] at k
  exact k
set_option maxRecDepth 100000 in
set_option maxHeartbeats 1600000 in
theorem alive13_any (w : World) (h : AlE w) : Calls Tryd.prog 5 #[] w fun r w' => r = .returned (.bool true) ∧ Below w.heap.size w w' := by
  have BA : Below w.heap.size w (w.alloc (.cells exV 23)) := (Below.refl _ _).alloc (Nat.le_refl _) _
  have NA := tblk_new w (.cells exV 23)
  have HA : Hid (∀ W, Below w.heap.size w W → AlE W) := fun W hW => h.below hW
  have hsame := ex_same
  have HW : Hid (∀ W, AlE W → Calls Tryd.prog 6 #[.agg exV] W fun r w' => ∃ a c k, r = .returned (.tuple #[.slice a 24 c, .int .i64 0]) ∧ Src w' k (.slice a 24 c) exLn ∧ k < w'.heap.size ∧ Below W.heap.size W w') := ex_write
  have HR : Hid (∀ W, AlE W → ∀ a c k, Src W k (.slice a 24 c) exLn → k < W.heap.size → Calls Tryd.prog 9 #[.slice a 24 c] W fun r w' => r = .returned (.tuple #[.agg exV, .int .i64 0]) ∧ Below W.heap.size W w') := ex_read
  have HR2 : Hid (∀ W, AlE W → ∀ a c k, Src W k (.slice a 4 c) [49, 32, 50, 10] → k < W.heap.size → Calls Tryd.prog 9 #[.slice a 4 c] W fun r w' => r = .returned (.tuple #[.agg (entV zeroE), .int .i64 20]) ∧ Below W.heap.size W w') := ex_read2
  have HAL : Hid (∀ W, AlE W → ∀ a c k, Src W k (.slice a 24 c) exLn → k < W.heap.size → Calls Tryd.prog 13 #[.slice a 24 c] W fun r w' => ∃ va vc, r = .returned (.tuple #[.slice va 1 vc, .int .i64 0]) ∧ Below W.heap.size W w') := ex_all
  have HG : Hid (∀ W, AlE W → Calls Tryd.prog 7 #[.agg exV] W fun r w' => r = .returned (.bool true) ∧ Below W.heap.size W w') := ex_right_any
  have HZ : Hid (∀ W, AlE W → Calls Tryd.prog 7 #[.agg (entV zeroE)] W fun r w' => r = .returned (.bool false) ∧ Below W.heap.size W w') := ex_zero_any
  unfold entV zeroE at HR2 HZ
  unfold exV at *
  simp only at HR2 HZ
  clear h
  go_enter Tryd.func5, Tryd.ntmps5
  go_wp2_with fail
  refine (HW.out _ (HA.out _ BA)).mono ?_
  rintro r w1 ⟨a, c, k, rfl, S1, k1, B1⟩
  have D1 := BA.trans (B1.mono BA.size)
  have N1 := tblk_below NA B1
  clear NA BA B1
  go_wp2_with fail
  refine (HR.out _ (HA.out _ D1) a c k S1 k1).mono ?_
  rintro r w2 ⟨rfl, B2⟩
  have D2 := D1.trans (B2.mono D1.size)
  have N2 := tblk_below N1 B2
  have S2 := (S1.keep (fun _ => k1) B2)
  have k2 := Nat.lt_of_lt_of_le k1 B2.size
  have B3 : Below w2.heap.size w2 (w2.alloc (.cells #[.int .i64 1, .int .i64 5, .int .i64 2, .int .i64 7, .string ⟨#[71, 69, 84]⟩, .string ⟨#[47, 97]⟩, .int .i64 200, .int .i64 1, .int .i64 30] 23)) := (Below.refl _ _).alloc (Nat.le_refl _) _
  have M3 := tblk_new w2 (.cells #[.int .i64 1, .int .i64 5, .int .i64 2, .int .i64 7, .string ⟨#[71, 69, 84]⟩, .string ⟨#[47, 97]⟩, .int .i64 200, .int .i64 1, .int .i64 30] 23)
  have B4 : Below (w2.alloc (.cells #[.int .i64 1, .int .i64 5, .int .i64 2, .int .i64 7, .string ⟨#[71, 69, 84]⟩, .string ⟨#[47, 97]⟩, .int .i64 200, .int .i64 1, .int .i64 30] 23)).heap.size (w2.alloc (.cells #[.int .i64 1, .int .i64 5, .int .i64 2, .int .i64 7, .string ⟨#[71, 69, 84]⟩, .string ⟨#[47, 97]⟩, .int .i64 200, .int .i64 1, .int .i64 30] 23)) ((w2.alloc (.cells #[.int .i64 1, .int .i64 5, .int .i64 2, .int .i64 7, .string ⟨#[71, 69, 84]⟩, .string ⟨#[47, 97]⟩, .int .i64 200, .int .i64 1, .int .i64 30] 23)).alloc (.cells #[.int .u8 49, .int .u8 32, .int .u8 50, .int .u8 10] 5 (4, 5))) := (Below.refl _ _).alloc (Nat.le_refl _) _
  have S4 := lit_src (w2.alloc (.cells #[.int .i64 1, .int .i64 5, .int .i64 2, .int .i64 7, .string ⟨#[71, 69, 84]⟩, .string ⟨#[47, 97]⟩, .int .i64 200, .int .i64 1, .int .i64 30] 23)) [49, 32, 50, 10] 4 #[.int .u8 49, .int .u8 32, .int .u8 50, .int .u8 10] (4, 5) rfl (by unfold maxLen; decide) rfl
  have s3 : (w2.alloc (.cells #[.int .i64 1, .int .i64 5, .int .i64 2, .int .i64 7, .string ⟨#[71, 69, 84]⟩, .string ⟨#[47, 97]⟩, .int .i64 200, .int .i64 1, .int .i64 30] 23)).heap.size = w2.heap.size + 1 := by simp
  rw [s3] at S4
  have M4 := tblk_below M3 B4
  have N4 := tblk_below (tblk_below N2 B3) B4
  have D4 := (D2.trans (B3.mono D2.size)).trans (B4.mono (D2.trans (B3.mono D2.size)).size)
  have S24 := (S2.keep (fun _ => k2) (B3.trans (B4.mono B3.size)))
  have hcs : (convert 25 25 (.slice (some ⟨w2.heap.size + 1, 0, none⟩) 4 4)).run Tryd.prog ((w2.alloc (.cells #[.int .i64 1, .int .i64 5, .int .i64 2, .int .i64 7, .string ⟨#[71, 69, 84]⟩, .string ⟨#[47, 97]⟩, .int .i64 200, .int .i64 1, .int .i64 30] 23)).alloc (.cells #[.int .u8 49, .int .u8 32, .int .u8 50, .int .u8 10] 5)) = .ok (.slice (some ⟨w2.heap.size + 1, 0, none⟩) 4 4) ((w2.alloc (.cells #[.int .i64 1, .int .i64 5, .int .i64 2, .int .i64 7, .string ⟨#[71, 69, 84]⟩, .string ⟨#[47, 97]⟩, .int .i64 200, .int .i64 1, .int .i64 30] 23)).alloc (.cells #[.int .u8 49, .int .u8 32, .int .u8 50, .int .u8 10] 5 (4, 5))) := by
    have q := conv_same (w2.alloc (.cells #[.int .i64 1, .int .i64 5, .int .i64 2, .int .i64 7, .string ⟨#[71, 69, 84]⟩, .string ⟨#[47, 97]⟩, .int .i64 200, .int .i64 1, .int .i64 30] 23)) #[.int .u8 49, .int .u8 32, .int .u8 50, .int .u8 10] 4 4
    rw [s3] at q
    exact q
  have k4 : w2.heap.size + 1 < ((w2.alloc (.cells #[.int .i64 1, .int .i64 5, .int .i64 2, .int .i64 7, .string ⟨#[71, 69, 84]⟩, .string ⟨#[47, 97]⟩, .int .i64 200, .int .i64 1, .int .i64 30] 23)).alloc (.cells #[.int .u8 49, .int .u8 32, .int .u8 50, .int .u8 10] 5 (4, 5))).heap.size := by simp
  have hk4 : k < ((w2.alloc (.cells #[.int .i64 1, .int .i64 5, .int .i64 2, .int .i64 7, .string ⟨#[71, 69, 84]⟩, .string ⟨#[47, 97]⟩, .int .i64 200, .int .i64 1, .int .i64 30] 23)).alloc (.cells #[.int .u8 49, .int .u8 32, .int .u8 50, .int .u8 10] 5 (4, 5))).heap.size := by simp; omega
  have HS24 : Hid (Src ((w2.alloc (.cells #[.int .i64 1, .int .i64 5, .int .i64 2, .int .i64 7, .string ⟨#[71, 69, 84]⟩, .string ⟨#[47, 97]⟩, .int .i64 200, .int .i64 1, .int .i64 30] 23)).alloc (.cells #[.int .u8 49, .int .u8 32, .int .u8 50, .int .u8 10] 5 (4, 5))) k (.slice a 24 c) exLn) := S24
  have HD4 : Hid (Below w.heap.size w ((w2.alloc (.cells #[.int .i64 1, .int .i64 5, .int .i64 2, .int .i64 7, .string ⟨#[71, 69, 84]⟩, .string ⟨#[47, 97]⟩, .int .i64 200, .int .i64 1, .int .i64 30] 23)).alloc (.cells #[.int .u8 49, .int .u8 32, .int .u8 50, .int .u8 10] 5 (4, 5)))) := D4
  have HS4 : Hid (Src ((w2.alloc (.cells #[.int .i64 1, .int .i64 5, .int .i64 2, .int .i64 7, .string ⟨#[71, 69, 84]⟩, .string ⟨#[47, 97]⟩, .int .i64 200, .int .i64 1, .int .i64 30] 23)).alloc (.cells #[.int .u8 49, .int .u8 32, .int .u8 50, .int .u8 10] 5 (4, 5))) (w2.heap.size + 1) (.slice (some ⟨w2.heap.size + 1, 0, none⟩) 4 4) [49, 32, 50, 10]) := S4
  have HM4 : Hid (((w2.alloc (.cells #[.int .i64 1, .int .i64 5, .int .i64 2, .int .i64 7, .string ⟨#[71, 69, 84]⟩, .string ⟨#[47, 97]⟩, .int .i64 200, .int .i64 1, .int .i64 30] 23)).alloc (.cells #[.int .u8 49, .int .u8 32, .int .u8 50, .int .u8 10] 5 (4, 5))).heap[w2.heap.size]? = some (.cells #[.int .i64 1, .int .i64 5, .int .i64 2, .int .i64 7, .string ⟨#[71, 69, 84]⟩, .string ⟨#[47, 97]⟩, .int .i64 200, .int .i64 1, .int .i64 30] 23)) := M4
  have HN4 : Hid (((w2.alloc (.cells #[.int .i64 1, .int .i64 5, .int .i64 2, .int .i64 7, .string ⟨#[71, 69, 84]⟩, .string ⟨#[47, 97]⟩, .int .i64 200, .int .i64 1, .int .i64 30] 23)).alloc (.cells #[.int .u8 49, .int .u8 32, .int .u8 50, .int .u8 10] 5 (4, 5))).heap[w.heap.size]? = some (.cells #[.int .i64 1, .int .i64 5, .int .i64 2, .int .i64 7, .string ⟨#[71, 69, 84]⟩, .string ⟨#[47, 97]⟩, .int .i64 200, .int .i64 1, .int .i64 30] 23)) := N4
  clear S1 S2 S24 S4 N1 N2 B2 B3 M3 B4 M4 N4 D1 D2 D4 k1 k2 s3
  go_wp2_with fail
  refine (HR2.out _ (HA.out _ HD4.out) _ _ _ HS4.out k4).mono ?_
  rintro r w5 ⟨rfl, B5⟩
  have D5 := HD4.out.trans (B5.mono HD4.out.size)
  have N5 := tblk_below HN4.out B5
  have M5 := tblk_below HM4.out B5
  have S5 := HS24.out.keep (fun _ => hk4) B5
  have k5 := Nat.lt_of_lt_of_le hk4 B5.size
  have B6 : Below w5.heap.size w5 (w5.alloc (.cells #[.int .i64 0, .int .i64 0, .int .i64 0, .int .i64 0, .string ⟨#[]⟩, .string ⟨#[]⟩, .int .i64 0, .int .i64 0, .int .i64 0] 23)) := (Below.refl _ _).alloc (Nat.le_refl _) _
  have D6 := D5.trans (B6.mono D5.size)
  have S6 := S5.keep (fun _ => k5) B6
  have k6 := Nat.lt_of_lt_of_le k5 B6.size
  have N6 := tblk_below N5 B6
  have M6 := tblk_below M5 B6
  clear HS24 HD4 HS4 HM4 HN4 B5 D5 N5 M5 S5 k5 B6 k4 hk4 hcs
  go_wp2_with fail
  generalize (w5.alloc (.cells #[.int .i64 0, .int .i64 0, .int .i64 0, .int .i64 0, .string ⟨#[]⟩, .string ⟨#[]⟩, .int .i64 0, .int .i64 0, .int .i64 0] 23)) = w6 at *
  refine (HAL.out _ (HA.out _ D6) _ _ _ S6 k6).mono ?_
  rintro r w7 ⟨va, vc, rfl, B7⟩
  have D7 := D6.trans (B7.mono D6.size)
  have N7 := tblk_below N6 B7
  have M7 := tblk_below M6 B7
  have S7 := S6.keep (fun _ => k6) B7
  have hcv : (convert 25 9 (.slice a 24 c)).run Tryd.prog w7 = .ok (.string ⟨#[49, 32, 53, 32, 50, 32, 55, 32, 71, 69, 84, 32, 47, 97, 32, 50, 48, 48, 32, 49, 32, 51, 48, 10]⟩) w7 := conv_all S7
  obtain ⟨n0, n1, n2, n3, n4, n5, n6, n7, n8⟩ := cells9 N7
  obtain ⟨m0, m1, m2, m3, m4, m5, m6, m7, m8⟩ := cells9 M7
  have HD7 : Hid (Below w.heap.size w w7) := D7
  have HN7 : Hid (w7.heap[w.heap.size]? = some (.cells #[.int .i64 1, .int .i64 5, .int .i64 2, .int .i64 7, .string ⟨#[71, 69, 84]⟩, .string ⟨#[47, 97]⟩, .int .i64 200, .int .i64 1, .int .i64 30] 23)) := N7
  clear D6 N6 M6 S6 k6 B7 D7 S7 N7 M7
  go_wp2_with fail
  refine (HG.out _ (HA.out _ HD7.out)).mono ?_
  rintro r w8 ⟨rfl, B8⟩
  have D8 := HD7.out.trans (B8.mono HD7.out.size)
  clear n0 n1 n2 n3 n4 n5 n6 n7 n8 m0 m1 m2 m3 m4 m5 m6 m7 m8 hcv
  go_wp2_with fail
  refine (HZ.out _ (HA.out _ D8)).mono ?_
  rintro r w9 ⟨rfl, B9⟩
  have D9 := D8.trans (B9.mono D8.size)
  go_wp2
  go_ret
  exact ⟨rfl, D9⟩
end Go.Proofs.YtedncmbamjkacaaDoor

/- SameBytes of equal lists. -/
namespace Go.Proofs.YtedncmbamjkacaaDoor
open Go.RowKit
set_option linter.unusedVariables false

set_option maxHeartbeats 1000000 in
theorem sameBytes_eq (xs : List UInt8) (k1 k2 : Nat) (v1 v2 : Value) (w : World) (h1 : Src w k1 v1 xs) (h2 : Src w k2 v2 xs) :
    Calls Tryd.prog 10 #[v1, v2] w fun e w' => e = .returned (.bool true) ∧ Below w.heap.size w w' := by
  obtain ⟨a1, c1, rfl, l1, m1, f1⟩ := h1
  obtain ⟨a2, c2, rfl, l2, m2, f2⟩ := h2
  unfold maxLen at m1 m2
  rcases Nat.eq_zero_or_pos xs.length with h0 | hp
  · rw [h0]
    clear f1 f2
    go_enter Tryd.func10, Tryd.ntmps10
    go_wp2_with fail
    refine wp_loop_rounds 1 ?_
    rw [rounds_succ]
    go_wp2
    go_ret
    exact ⟨rfl, Below.refl _ _⟩
  · obtain ⟨o1, rfl, g1⟩ := f1 hp
    obtain ⟨o2, rfl, g2⟩ := f2 hp
    clear f1 f2
    have hn : xs.length ≤ 9223372036854775807 := by omega
    clear m1 m2
    go_enter Tryd.func10, Tryd.ntmps10
    go_wp2_with fail
    go_loopw [5] (fun vi wr => ∃ k d : Nat, k ≤ xs.length ∧ vi = .int .i64 k ∧ wr = w.drewN d) (fun vi _ => xs.length - (intOf vi).toNat)
    case atStart => exact ⟨0, 0, Nat.zero_le _, rfl, by simp [World.drewN_zero]⟩
    case round =>
      obtain ⟨k, d, hk, rfl, rfl⟩ := hrel
      by_cases hlt : k < xs.length
      · have q1 : w.cell? ⟨k1, o1 + k, none⟩ = some (.int .u8 (xs[k].toNat : Int)) := g1 k hlt
        have q2 : w.cell? ⟨k2, o2 + k, none⟩ = some (.int .u8 (xs[k].toNat : Int)) := g2 k hlt
        generalize (xs[k].toNat : Int) = x at *
        clear g1 g2
        go_wp2
        go_quiet (fail)
        go_wp2
        go_roundw
        case rel => exact ⟨k + 1, _, by omega, by go_num, rfl⟩
        case measure => simp [intOf]; omega
      · go_wp2
        go_ret
        exact ⟨rfl, by refine ⟨?_, ?_, ?_, ?_, ?_⟩ <;> simp [World.drewN]⟩

end Go.Proofs.YtedncmbamjkacaaDoor

/- SameBytes of lists that differ. -/
namespace Go.Proofs.YtedncmbamjkacaaDoor
open Go.RowKit
set_option linter.unusedVariables false

theorem eq_of_take {xs ys : List UInt8} (hl : xs.length = ys.length) (h : xs.take xs.length = ys.take xs.length) : xs = ys := by
  rw [List.take_of_length_le (Nat.le_refl _), List.take_of_length_le (by omega)] at h; exact h
set_option maxRecDepth 100000 in
set_option maxHeartbeats 1000000 in
theorem sameBytes_ne (xs ys : List UInt8) (k1 k2 : Nat) (a1 a2 : Option Addr) (c1 c2 : Nat) (w : World) (h1 : Src w k1 (.slice a1 xs.length c1) xs) (h2 : Src w k2 (.slice a2 ys.length c2) ys) (hne : xs ≠ ys) :
    Calls Tryd.prog 10 #[.slice a1 xs.length c1, .slice a2 ys.length c2] w fun e w' => e = .returned (.bool false) ∧ Below w.heap.size w w' := by
  obtain ⟨b1, d1, e1, l1, m1, f1⟩ := h1
  obtain ⟨b2, d2, e2, l2, m2, f2⟩ := h2
  obtain ⟨rfl, _, rfl⟩ := slice_inj e1
  obtain ⟨rfl, _, rfl⟩ := slice_inj e2
  unfold maxLen at m1 m2
  clear e1 e2
  by_cases hl : xs.length = ys.length
  · have hp : 0 < xs.length := by
      rcases Nat.eq_zero_or_pos xs.length with h0 | h0
      · have hx0 : xs = [] := List.eq_nil_of_length_eq_zero h0
        have hy0 : ys = [] := List.eq_nil_of_length_eq_zero (by omega)
        exact absurd (hx0.trans hy0.symm) hne
      · exact h0
    obtain ⟨o1, rfl, g1⟩ := f1 hp
    obtain ⟨o2, rfl, g2⟩ := f2 (by omega)
    have HL : Hid (xs.length = ys.length) := hl
    obtain ⟨n, hN⟩ : ∃ n, n = xs.length := ⟨_, rfl⟩
    have hN2 : n = ys.length := by omega
    have HN : Hid (n = xs.length) := hN
    have HN2 : Hid (n = ys.length) := hN2
    have HNE : Hid (xs ≠ ys) := hne
    have hn : n ≤ 9223372036854775807 := by omega
    rw [← hN, ← hN2]
    clear f1 f2 l1 l2 m1 m2 hl hN hN2 hp hne
    go_enter Tryd.func10, Tryd.ntmps10
    go_wp2_with fail
    go_loopw [5] (fun vi wr => ∃ k d : Nat, k ≤ n ∧ vi = .int .i64 k ∧ wr = w.drewN d ∧ Hid (xs.take k = ys.take k)) (fun vi _ => n - (intOf vi).toNat)
    case atStart => exact ⟨0, 0, Nat.zero_le _, rfl, by simp [World.drewN_zero], rfl⟩
    case round =>
      obtain ⟨k, d, hk, rfl, rfl, hT⟩ := hrel
      have hlt : k < n := by
        rcases Nat.lt_or_ge k n with c | c
        · exact c
        · have : k = xs.length := by have := HN.out; omega
          subst this
          exact absurd (eq_of_take HL.out hT.out) HNE.out
      have hx : k < xs.length := by have := HN.out; omega
      have hy : k < ys.length := by have := HN2.out; omega
      have q1 : w.cell? ⟨k1, o1 + k, none⟩ = some (.int .u8 (xs[k].toNat : Int)) := g1 k hx
      have q2 : w.cell? ⟨k2, o2 + k, none⟩ = some (.int .u8 (ys[k].toNat : Int)) := g2 k hy
      have HT2 : Hid (xs[k] = ys[k] → xs.take (k + 1) = ys.take (k + 1)) := fun e => by rw [List.take_succ_eq_append_getElem hx, List.take_succ_eq_append_getElem hy, hT.out, e]
      have hcase : xs[k] = ys[k] ∨ ((xs[k].toNat : Int) == (ys[k].toNat : Int)) = false := by
        by_cases e : xs[k] = ys[k]
        · exact .inl e
        · right
          rw [beq_eq_false_iff_ne]
          intro c
          exact e (UInt8.toNat_inj.1 (by omega))
      clear g1 g2
      rcases hcase with he | he
      · have HT3 : Hid (xs.take (k + 1) = ys.take (k + 1)) := HT2.out he
        have e0 : (ys[k].toNat : Int) = (xs[k].toNat : Int) := by rw [he]
        rw [e0] at q2
        generalize (xs[k].toNat : Int) = x at *
        clear he HT2 e0 hx hy
        go_wp2
        go_quiet (fail)
        go_wp2
        go_roundw
        case rel => exact ⟨k + 1, _, by omega, by go_num, rfl, HT3.out⟩
        case measure => simp [intOf]; omega
      · generalize (xs[k].toNat : Int) = x at *
        generalize (ys[k].toNat : Int) = y at *
        clear HT2 hx hy
        go_wp2
        go_quiet (fail)
        go_wp2
        go_ret
        exact ⟨rfl, by refine ⟨?_, ?_, ?_, ?_, ?_⟩ <;> simp [World.drewN]⟩
  · have hl2 : ((xs.length : Int) == (ys.length : Int)) = false := by rw [beq_eq_false_iff_ne]; omega
    have hl3 : ¬ (xs.length : Int) = (ys.length : Int) := by omega
    clear f1 f2 hne hl
    generalize xs.length = n at *
    generalize ys.length = m at *
    go_enter Tryd.func10, Tryd.ntmps10
    go_wp2
    go_ret
    exact ⟨rfl, Below.refl _ _⟩
end Go.Proofs.YtedncmbamjkacaaDoor

/- Records compared; records that came in. -/
namespace Go.Proofs.YtedncmbamjkacaaDoor
open Go.ChangeShapes Go.WideShapes Go.ChangeAt Go.RowKit
set_option linter.unusedVariables false

def sameE (a b : EntP) : Bool := (a.q == b.q) && ((a.a == b.a) && ((a.k == b.k) && ((a.n == b.n) && ((a.m.toList == b.m.toList) && ((a.t.toList == b.t.toList) && ((a.c == b.c) && ((a.u == b.u) && (a.d == b.d))))))))
theorem fieldsE : (Tryd.prog.fieldsOf 23).toList.map (fun f => f.type) = [2, 2, 2, 3, 9, 9, 3, 3, 3] := by kernel_rfl
set_option maxRecDepth 100000 in
theorem ent_eql (a b : EntP) (W : World) : (binOp .eql 23 (.agg (entV a)) (.agg (entV b))).run Tryd.prog W = .ok (.bool (sameE a b)) W := by
  rw [run_eql_struct, run_equalIn_agg W 9999 23 _ _ (by kernel_rfl) (by kernel_rfl)]
  unfold Program.fieldsOf
  rw [Tryd.underlying23]
  obtain ⟨q, a, k, n, m, t, c, u, d⟩ := a
  obtain ⟨q', a', k', n', m', t', c', u', d'⟩ := b
  unfold sameE entV
  simp only
  simp [Op.eqFields, part, go_sem, Tryd.underlying2, Tryd.underlying3, Tryd.underlying9, Tryd.isAgg2, Tryd.isAgg3, Tryd.isAgg9]
  by_cases h1 : q = q'
  case neg => simp [h1]
  by_cases h2 : a = a'
  case neg => simp [h2]
  by_cases h3 : k = k'
  case neg => simp [h3]
  by_cases h4 : n = n'
  case neg => simp [h4]
  by_cases h5 : m.toList = m'.toList
  case neg => simp [h5]
  by_cases h6 : t.toList = t'.toList
  case neg => simp [h6]
  by_cases h7 : c = c'
  case neg => simp [h7]
  by_cases h8 : u = u'
  case neg => simp [h8]
  by_cases h9 : d = d'
  case neg => simp [h9]
  simp [h1, h2, h3, h4, h5, h6, h7, h8, h9]
theorem sameE_iff (a b : EntP) : sameE a b = true ↔ a = b := by
  obtain ⟨q, a, k, n, m, t, c, u, d⟩ := a
  obtain ⟨q', a', k', n', m', t', c', u', d'⟩ := b
  unfold sameE
  simp only [Bool.and_eq_true, beq_iff_eq, EntP.mk.injEq]
  constructor
  · rintro ⟨h1, h2, h3, h4, h5, h6, h7, h8, h9⟩
    rw [ByteArray.toList_eq, ByteArray.toList_eq] at h5 h6
    exact ⟨h1, h2, h3, h4, bytes_eqR h5, bytes_eqR h6, h7, h8, h9⟩
  · rintro ⟨h1, h2, h3, h4, h5, h6, h7, h8, h9⟩
    exact ⟨h1, h2, h3, h4, by rw [h5], by rw [h6], h7, h8, h9⟩
set_option maxRecDepth 100000 in
theorem open_entry {H : Type} {enc : TypeId × Value → H} {w : World} {r : Reach} {b0 base : Nat} {held : Bool} {v : Value} {d : DataW H} {p : List MemPlace}
    (hv : Value.okWide Tryd.prog w r b0 23 v) (h : DataW.Trod enc Tryd.prog w base (fun _ => true) held 23 v d p) :
    ∃ e : EntP, v = .agg (entV e) ∧ e.m.size ≤ maxLen ∧ e.t.size ≤ maxLen := by
  have k2 : Tryd.prog.cellsOf 2 = 1 := by kernel_rfl
  have k3 : Tryd.prog.cellsOf 3 = 1 := by kernel_rfl
  have k9 : Tryd.prog.cellsOf 9 = 1 := by kernel_rfl
  obtain ⟨cs, rfl, hsz⟩ := okWide_struct Tryd.underlying23 hv
  obtain ⟨c0, c1, c2, c3, c4, c5, c6, c7, c8, rfl⟩ : ∃ c0 c1 c2 c3 c4 c5 c6 c7 c8, cs = #[c0, c1, c2, c3, c4, c5, c6, c7, c8] := by
    have h2 := hsz.trans (show Tryd.prog.cellsOf 23 = 9 by kernel_rfl)
    obtain ⟨l⟩ := cs
    match l, h2 with
    | [x0, x1, x2, x3, x4, x5, x6, x7, x8], _ => exact ⟨x0, x1, x2, x3, x4, x5, x6, x7, x8, rfl⟩
  obtain ⟨fuel, hf⟩ := h
  obtain ⟨xs, n, _, hx, _, hxl, hg⟩ := DataW.trod_struct Tryd.underlying23 hf
  match xs, hxl, hx, hg with
  | [y0, y1, y2, y3, y4, y5, y6, y7, y8], _, hx, hg =>
    have g0 := hg 0 _ rfl
    have g1 := hg 1 _ rfl
    have g2 := hg 2 _ rfl
    have g3 := hg 3 _ rfl
    have g4 := hg 4 _ rfl
    have g5 := hg 5 _ rfl
    have g6 := hg 6 _ rfl
    have g7 := hg 7 _ rfl
    have g8 := hg 8 _ rfl
    simp [Value.cells, k2, k3, k9] at g0 g1 g2 g3 g4 g5 g6 g7 g8
    obtain ⟨s0, e0, _⟩ := DataW.trod_int Tryd.underlying2 g0
    obtain ⟨s1, e1, _⟩ := DataW.trod_int Tryd.underlying2 g1
    obtain ⟨s2, e2, _⟩ := DataW.trod_int Tryd.underlying2 g2
    obtain ⟨s3, e3, _⟩ := DataW.trod_int Tryd.underlying3 g3
    obtain ⟨s4, e4, _, z4⟩ := DataW.trod_string Tryd.underlying9 g4
    obtain ⟨s5, e5, _, z5⟩ := DataW.trod_string Tryd.underlying9 g5
    obtain ⟨s6, e6, _⟩ := DataW.trod_int Tryd.underlying3 g6
    obtain ⟨s7, e7, _⟩ := DataW.trod_int Tryd.underlying3 g7
    obtain ⟨s8, e8, _⟩ := DataW.trod_int Tryd.underlying3 g8
    have e0' : c0 = .int .i64 s0 := by simpa using e0
    have e1' : c1 = .int .i64 s1 := by simpa using e1
    have e2' : c2 = .int .i64 s2 := by simpa using e2
    have e3' : c3 = .int .i64 s3 := by simpa using e3
    have e4' : c4 = .string s4 := by simpa using e4
    have e5' : c5 = .string s5 := by simpa using e5
    have e6' : c6 = .int .i64 s6 := by simpa using e6
    have e7' : c7 = .int .i64 s7 := by simpa using e7
    have e8' : c8 = .int .i64 s8 := by simpa using e8
    subst e0' e1' e2' e3' e4' e5' e6' e7' e8'
    exact ⟨⟨s0, s1, s2, s3, s4, s5, s6, s7, s8⟩, rfl, z4, z5⟩
end Go.Proofs.YtedncmbamjkacaaDoor

/- Out of the row's condition: the table of the powers of ten. -/
namespace Go.Proofs.YtedncmbamjkacaaDoor
open Go.RowKit
set_option linter.unusedVariables false

theorem tcell_lt {w : World} {b : Nat} {i : Nat} {v : Value} (h : w.cell? ⟨b, i, none⟩ = some v) : b < w.heap.size := by
  unfold World.cell? at h
  rcases Nat.lt_or_ge b w.heap.size with c | c
  · exact c
  · simp [Array.getElem?_eq_none c] at h
theorem tpow_of {l : List (String × DataW Unit)} {W : World} (hl : l.filter (fun x => x.1 == "internal/strconv.uint64pow10") = [("internal/strconv.uint64pow10", Lib.tabData .u64 Lib.pow10Tab)]) (h : laidMetH Tryd.prog l W) : PowT W := by
  have h1 := laidMetH.filter (fun x => x.1 == "internal/strconv.uint64pow10") h
  rw [hl, MakeChecks.laidMetH_plain _ _ _ (by kernel_rfl)] at h1
  have p1 := Lib.tabIs_of_head gPow (by kernel_rfl) Tryd.underlying109 Tryd.underlying96 (by kernel_rfl) (by kernel_rfl) h1
  have c : W.cell? ⟨3, 0, none⟩ = some (.int .u64 1) := p1.cell gPow 0 (by decide)
  exact ⟨p1, tcell_lt c⟩
end Go.Proofs.YtedncmbamjkacaaDoor

/- Out of the row's condition: the tables of the bounds; how long the bytes are where the bulk is small. -/
namespace Go.Proofs.YtedncmbamjkacaaDoor
open Go.ChangeShapes Go.WideShapes Go.RowKit
set_option linter.unusedVariables false

theorem gLeast : Tryd.prog.globalNamed "tollbar/entry.least" = some 0 := by kernel_rfl
theorem gMost : Tryd.prog.globalNamed "tollbar/entry.most" = some 1 := by kernel_rfl
def leastTab : List Int := [1, 0, 0, 1, 0, 0, 0]
def mostTab : List Int := [1125899906842624, 1125899906842624, 1125899906842624, 2147483647, 999, 1125899906842624, 1125899906842624]
theorem lm_of {l : List (String × DataW Unit)} {W : World} (hl : l.filter (fun x => x.1 == "tollbar/entry.least") = [("tollbar/entry.least", Lib.tabData .i64 leastTab)]) (hm : l.filter (fun x => x.1 == "tollbar/entry.most") = [("tollbar/entry.most", Lib.tabData .i64 mostTab)]) (h : laidMetH Tryd.prog l W) : LmT W := by
  have h1 := laidMetH.filter (fun x => x.1 == "tollbar/entry.least") h
  rw [hl, MakeChecks.laidMetH_plain _ _ _ (by kernel_rfl)] at h1
  have p1 := Lib.tabIs_of_head gLeast (by kernel_rfl) Tryd.underlying45 Tryd.underlying2 (by kernel_rfl) (by kernel_rfl) h1
  have h2 := laidMetH.filter (fun x => x.1 == "tollbar/entry.most") h
  rw [hm, MakeChecks.laidMetH_plain _ _ _ (by kernel_rfl)] at h2
  have p2 := Lib.tabIs_of_head gMost (by kernel_rfl) Tryd.underlying45 Tryd.underlying2 (by kernel_rfl) (by kernel_rfl) h2
  have c1 : W.cell? ⟨0, 0, none⟩ = some (.int .i64 1) := p1.cell gLeast 0 (by decide)
  have c2 : W.cell? ⟨1, 0, none⟩ = some (.int .i64 1125899906842624) := p2.cell gMost 0 (by decide)
  exact ⟨c1, p1.cell gLeast 1 (by decide), p1.cell gLeast 2 (by decide), p1.cell gLeast 3 (by decide), p1.cell gLeast 4 (by decide), p1.cell gLeast 5 (by decide), p1.cell gLeast 6 (by decide),
    c2, p2.cell gMost 1 (by decide), p2.cell gMost 2 (by decide), p2.cell gMost 3 (by decide), p2.cell gMost 4 (by decide), p2.cell gMost 5 (by decide), p2.cell gMost 6 (by decide), tcell_lt c1, tcell_lt c2⟩
theorem bulk_lits {H : Type} {k : IntKind} : ∀ zs : List Int, Rows.uptoBulkAll (H := H) (lits k zs) = zs.length
  | [] => rfl
  | z :: zs => by
    have e : lits (H := H) k (z :: zs) = .lit (.int k z) :: lits k zs := rfl
    rw [e]
    simp only [Rows.uptoBulkAll, Rows.uptoBulk, List.length_cons]
    rw [bulk_lits zs]
    omega
theorem bulk_bytes {H : Type} {enc : TypeId × Value → H} {w : World} {base : Nat} {held : Bool} {a : Option Addr} {len cap : Nat} {d : DataW H} {p : List MemPlace}
    (h : DataW.Trod enc Tryd.prog w base (fun _ => true) held 25 (Value.slice a len cap) d p) : len ≤ Rows.uptoBulk d := by
  obtain ⟨fuel, hf⟩ := h
  rcases open_ints Tryd.underlying25 Tryd.underlying5 (by kernel_rfl) hf with ⟨hcs, hx⟩ | ⟨x, l, c, zs, hcs, _, hl, hm, hz, hx, hcell, hwz⟩
  · simp [Value.cells] at hcs
    obtain ⟨rfl, rfl, rfl⟩ := hcs
    exact Nat.zero_le _
  · simp [Value.cells] at hcs
    obtain ⟨rfl, rfl, rfl⟩ := hcs
    have hz' : zs.length = cap := by simpa using hz
    obtain ⟨rfl, _⟩ := Prod.mk.inj hx
    simp only [Rows.uptoBulk]
    rw [bulk_lits, bulk_lits, List.length_take, List.length_drop]
    omega
end Go.Proofs.YtedncmbamjkacaaDoor
