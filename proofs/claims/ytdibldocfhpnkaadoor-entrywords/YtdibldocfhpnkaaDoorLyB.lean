/- bytes.Lines: its iterator, which keeps what is left in a cell of its own. -/
import Derived.RangeFuncNested
import Derived.RangeFuncBound
import Derived.RangeFuncCalls
import Derived.RangeFuncLeaves
import Derived.Shelf.Abstract
import Derived.Shelf.RegionOpen
import Derived.WalkKit
import Derived.OwnWalkIn
import Derived.TacticsInMore
import Derived.LoopNIn
import Derived.LoopIn
import Derived.Test.YtdibldocfhpnkaaDoorLyA
namespace Go.Proofs.YtdibldocfhpnkaaDoor
open Go.RowKit Go.Shelf
attribute [local go_sem] Oper.semAt_some
set_option linter.unusedVariables false

/-- What is left lies in block bc: a slice of bytes of block k. -/
def LeftY (w0 W : World) (bc k : Nat) (r : List UInt8) : Prop := ∃ a c, W.heap[bc]? = some (.cells #[.slice a r.length c] 25) ∧ Src w0 k (.slice a r.length c) r
def lenY (bc : Nat) (W : World) : Nat := match W.cell? ⟨bc, 0, none⟩ with | some (.slice _ n _) => n | _ => 0
theorem lenY_at {w0 W : World} {bc k : Nat} {r : List UInt8} (h : LeftY w0 W bc k r) : lenY bc W = r.length := by
  obtain ⟨a, c, h, _⟩ := h
  unfold lenY
  rw [show W.cell? ⟨bc, 0, none⟩ = some (.slice a r.length c) from ring_cell h rfl]
theorem Src.cap {w : World} {k : Nat} {a : Option Addr} {n c m : Nat} {r : List UInt8} (h : Src w k (.slice a n c) r) (hm : n ≤ m) (hc : m ≤ c) : Src w k (.slice a n m) r := by
  obtain ⟨a', c', e, h1, h2, h3⟩ := h
  obtain ⟨rfl, rfl, rfl⟩ := slice_inj e
  exact ⟨a, m, rfl, hm, by omega, h3⟩
theorem src_nil (w : World) (k : Nat) : Src w k (.slice none 0 0) [] := ⟨none, 0, rfl, Nat.le_refl _, Nat.zero_le _, fun h => absurd h (Nat.lt_irrefl _)⟩
set_option maxRecDepth 100000 in
set_option maxHeartbeats 2000000 in
theorem blines1_in (w0 : World) (n l bc k : Nat) (s0 : List UInt8) (hs0 : s0.length ≤ 4294967296) (J Jx : List (List UInt8) → World → Prop) (hn : 1 ≤ n)
    (hset : ∀ pre W v, J pre W → J pre (W.setCell ⟨bc, 0, none⟩ v)) (hdrew : ∀ pre W, J pre W → J pre W.drew) (hkb : ∀ pre W, J pre W → W.heap[k]? = w0.heap[k]?)
    (hY : ∀ pre x sa W1, J pre W1 → Src w0 k (.slice sa x.length x.length) x → 0 < x.length → pre ++ [x] <+: linesL s0 → YieldAt Fence.wide (n - 1) Tryd.prog l #[.slice sa x.length x.length] W1 fun e W' =>
      (e = .returned (.bool true) ∧ J (pre ++ [x]) W' ∧ W'.heap[bc]? = W1.heap[bc]?) ∨ (e = .returned (.bool false) ∧ Jx (pre ++ [x]) W'))
    (W : World) (hc : LeftY w0 W bc k s0) (h0 : J [] W) :
    CallsIn Fence.wide n Tryd.prog 46 #[.func (.yield l) #[] #[], .pointer (some ⟨bc, 0, none⟩)] W fun e W' => (∃ v, e = .returned v) ∧
      (J (linesL s0) W' ∨ (∃ pre, pre <+: linesL s0 ∧ Jx pre W')) := by
  refine callsIn_of_wp Tryd.func46 rfl trivial ?_ rfl
  simp only [Tryd.ntmps46, List.size_toArray, List.length_cons, List.length_nil, Nat.reduceAdd, Nat.reduceSub, Array.replicate_succ, Array.replicate_zero, List.push_toArray, List.append_toArray, List.nil_append, List.cons_append]
  gi_wp2
  gi_loopw [] (fun wr => ∃ (pre : List (List UInt8)) (r : List UInt8), Hid (linesL s0 = pre ++ linesL r) ∧ r.length ≤ 4294967296 ∧ Hid (LeftY w0 wr bc k r) ∧ Hid (J pre wr)) (fun wr => lenY bc wr)
  case atStart => exact ⟨[], s0, rfl, hs0, hc, h0⟩
  case round =>
    obtain ⟨pre, r, hL, hr, hc1, hJ⟩ := hrel
    clear hc h0
    have hmz : lenY bc wr = r.length := lenY_at hc1.out
    obtain ⟨a, c, hblk, hS⟩ := hc1.out
    have hc2 : wr.cell? ⟨bc, 0, none⟩ = some (.slice a r.length c) := ring_cell hblk rfl
    have hz2 : wr.frozen? ⟨bc, 0, none⟩ = false := ring_z hblk
    have hcap := hS.len
    rcases Nat.eq_zero_or_pos r.length with z | z
    · have hr0 : r = [] := List.eq_nil_of_length_eq_zero z
      rw [z] at hc2
      have HJ0 : Hid (J (linesL s0) wr) := by rw [Hid, hL.out, hr0, lines_nil, List.append_nil]; exact hJ.out
      clear z hr0 hmz hS hblk hcap hc1 hL
      gi_wp2
      refine bodyPost_end (results_none rfl _ _ _) rfl ?_
      exact ⟨⟨_, rfl⟩, .inl HJ0.out⟩
    · have hp : (0 : Int) < (r.length : Int) := by omega
      have HI : Hid (Calls Tryd.prog 47 #[.slice a r.length c, .int .u8 10] wr fun e w' => e = .returned (.int .i64 (Lib.indexByte r 10)) ∧ w' = wr) := bindexb_any r k a r.length c wr (hS.frame (hkb _ _ hJ.out)) z
      have HS : Hid (Src w0 k (.slice a r.length c) r) := hS
      obtain ⟨_, hlc, hcm⟩ := hcap
      unfold maxLen at hcm
      have HMZ : Hid (lenY bc wr = r.length) := hmz
      clear hS hmz hc1
      by_cases hh : Lib.indexByte r 10 = -1
      · rw [hh] at HI
        have hne : r ≠ [] := fun e => by rw [e] at z; exact absurd z (by decide)
        have hL1 : Hid (linesL s0 = pre ++ [r]) := by rw [Hid, hL.out, lines_miss r hh hne]
        have hcc : Hid (LeftY w0 (wr.setCell ⟨bc, 0, none⟩ (.slice none 0 0)) bc k []) := ⟨none, 0, by rw [ring_set hblk]; rfl, src_nil _ _⟩
        obtain ⟨fn, tmps, assign, body, hy, hR⟩ := hY pre r a (wr.setCell ⟨bc, 0, none⟩ (.slice none 0 0)) (hset _ _ _ hJ.out) (HS.out.cap (Nat.le_refl _) hlc) z (by rw [hL1.out]; exact List.prefix_rfl)
        clear hne hh hJ hL hblk
        gi_wp2_with (refine ⟨trivial, ?_⟩; gi_at_call 47; refine (callsIn_wide.2 HI.out).mono ?_; rintro e w' ⟨rfl, rfl⟩)
        refine hR.mono ?_
        rintro e W3 (⟨rfl, hJ3, hk3⟩ | ⟨rfl, hJx3⟩)
        · have hc3 : Hid (LeftY w0 W3 bc k []) := by
            obtain ⟨a3, c3, h3, h4⟩ := hcc.out
            exact ⟨a3, c3, hk3.trans h3, h4⟩
          clear hk3 hR hy
          gi_wp2
          go_roundw
          case rel => exact ⟨pre ++ [r], [], by rw [Hid, hL1.out, lines_nil, List.append_nil], by decide, hc3, hJ3⟩
          case measure => rw [lenY_at hc3.out]; have := HMZ.out; simp only [List.length_nil]; omega
        · clear hR hy
          gi_wp2
          refine bodyPost_ret (results_none rfl _ _ _) rfl ?_
          exact ⟨⟨_, rfl⟩, .inr ⟨pre ++ [r], by rw [hL1.out]; exact List.prefix_rfl, hJx3⟩⟩
      · have hge := Lib.indexByte_ge r 10
        obtain ⟨i, hi⟩ : ∃ i : Nat, Lib.indexByte r 10 = i := ⟨(Lib.indexByte r 10).toNat, by omega⟩
        have hil := idx_lt 10 r i hi
        rw [hi] at HI
        have hL1 : Hid (linesL s0 = pre ++ [r.take (i + 1)] ++ linesL (r.drop (i + 1))) := by rw [Hid, hL.out, lines_hit r i hi, List.append_assoc]; rfl
        have hiz : (i : Int) + 1 ≤ (r.length : Int) := by omega
        have hic : (i : Int) + 1 ≤ (c : Int) := by omega
        have htl : (r.take (i + 1)).length = i + 1 := by rw [List.length_take]; omega
        have HSX : Hid (Src w0 k (.slice a (i + 1) (i + 1)) (r.take (i + 1))) := (HS.out.take (m := i + 1) (by omega)).cap (Nat.le_refl _) (by omega)
        obtain ⟨off, rfl, _⟩ : ∃ off, a = some ⟨k, off, none⟩ ∧ True := by
          obtain ⟨a', c', e, _, _, h3⟩ := HS.out
          obtain ⟨rfl, _, _⟩ := slice_inj e
          obtain ⟨off, h, _⟩ := h3 z
          exact ⟨off, h, trivial⟩
        clear hge hh hi hL
        by_cases hci : c = i + 1
        · subst hci
          have hrl : r.length = i + 1 := by omega
          have hdr : r.drop (i + 1) = [] := List.drop_eq_nil_of_le (by omega)
          rw [hrl] at hc2 HI hblk
          have hcc : Hid (LeftY w0 (wr.setCell ⟨bc, 0, none⟩ (.slice (some ⟨k, off, none⟩) 0 0)) bc k []) := ⟨some ⟨k, off, none⟩, 0, by rw [ring_set hblk]; rfl, ⟨_, 0, rfl, Nat.le_refl _, Nat.zero_le _, fun h => absurd h (Nat.lt_irrefl _)⟩⟩
          obtain ⟨fn, tmps, assign, body, hy, hR⟩ := hY pre (r.take (i + 1)) (some ⟨k, off, none⟩) (wr.setCell ⟨bc, 0, none⟩ (.slice (some ⟨k, off, none⟩) 0 0)).drew (hdrew _ _ (hset _ _ _ hJ.out)) (by rw [htl]; exact HSX.out) (by omega) (by rw [hL1.out]; exact ⟨_, rfl⟩)
          rw [htl] at hy
          have HRL : Hid (r.length = i + 1) := hrl
          have HDR : Hid (r.drop (i + 1) = []) := hdr
          have hpi : (0 : Int) < (i : Int) + 1 := by omega
          have hpj : (i : Int) + 1 ≤ 4294967296 := by omega
          clear hblk hrl hdr hp hiz hic hlc hcm hil htl hr z
          gi_wp2_with (refine ⟨trivial, ?_⟩; gi_at_call 47; refine (callsIn_wide.2 HI.out).mono ?_; rintro e w' ⟨rfl, rfl⟩)
          gi_region
          gi_wp2
          refine hR.mono ?_
          rintro e W3 (⟨rfl, hJ3, hk3⟩ | ⟨rfl, hJx3⟩)
          · have hc3 : Hid (LeftY w0 W3 bc k []) := by
              obtain ⟨a3, c3, h3, h4⟩ := hcc.out
              exact ⟨a3, c3, hk3.trans h3, h4⟩
            clear hk3 hR hy
            gi_wp2
            go_roundw
            case rel => exact ⟨pre ++ [r.take (i + 1)], [], by rw [Hid, hL1.out, HDR.out], by decide, hc3, hJ3⟩
            case measure => rw [lenY_at hc3.out]; have := HMZ.out; have := HRL.out; simp only [List.length_nil]; omega
          · clear hR hy
            gi_wp2
            refine bodyPost_ret (results_none rfl _ _ _) rfl ?_
            exact ⟨⟨_, rfl⟩, .inr ⟨pre ++ [r.take (i + 1)], by rw [hL1.out]; exact ⟨_, rfl⟩, hJx3⟩⟩
        · have hci' := hci
          have hcc : Hid (LeftY w0 (wr.setCell ⟨bc, 0, none⟩ (.slice (some ⟨k, off + (i + 1), none⟩) (r.length - (i + 1)) (c - (i + 1)))) bc k (r.drop (i + 1))) := by
            refine ⟨(some ⟨k, off + (i + 1), none⟩), c - (i + 1), by rw [ring_set hblk, List.length_drop]; rfl, ?_⟩
            have q := HS.out.cut (m := i + 1) (a' := (some ⟨k, off + (i + 1), none⟩)) (by omega) (fun h => by simp [addr_add])
            rw [← List.length_drop] at q
            exact q
          obtain ⟨fn, tmps, assign, body, hy, hR⟩ := hY pre (r.take (i + 1)) (some ⟨k, off, none⟩) (wr.setCell ⟨bc, 0, none⟩ (.slice (some ⟨k, off + (i + 1), none⟩) (r.length - (i + 1)) (c - (i + 1)))).drew (hdrew _ _ (hset _ _ _ hJ.out)) (by rw [htl]; exact HSX.out) (by omega) (by rw [hL1.out]; exact ⟨_, rfl⟩)
          rw [htl] at hy
          clear hblk
          gi_wp2_with (refine ⟨trivial, ?_⟩; gi_at_call 47; refine (callsIn_wide.2 HI.out).mono ?_; rintro e w' ⟨rfl, rfl⟩)
          gi_region
          gi_wp2
          refine hR.mono ?_
          rintro e W3 (⟨rfl, hJ3, hk3⟩ | ⟨rfl, hJx3⟩)
          · have hc3 : Hid (LeftY w0 W3 bc k (r.drop (i + 1))) := by
              obtain ⟨a3, c3, h3, h4⟩ := hcc.out
              exact ⟨a3, c3, hk3.trans h3, h4⟩
            clear hk3 hR hy
            gi_wp2
            go_roundw
            case rel => exact ⟨pre ++ [r.take (i + 1)], r.drop (i + 1), hL1, by rw [List.length_drop]; omega, hc3, hJ3⟩
            case measure => rw [lenY_at hc3.out, List.length_drop]; have := HMZ.out; omega
          · clear hR hy
            gi_wp2
            refine bodyPost_ret (results_none rfl _ _ _) rfl ?_
            exact ⟨⟨_, rfl⟩, .inr ⟨pre ++ [r.take (i + 1)], by rw [hL1.out]; exact ⟨_, rfl⟩, hJx3⟩⟩
end Go.Proofs.YtdibldocfhpnkaaDoor
