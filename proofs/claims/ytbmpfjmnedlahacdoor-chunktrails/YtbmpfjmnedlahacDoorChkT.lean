/- ChunkTrails, walked. -/
import Derived.Test.YtbmpfjmnedlahacDoorChkG
import Derived.Test.YtbmpfjmnedlahacDoorChkJ
import Derived.Test.YtbmpfjmnedlahacDoorSamB
namespace Go.Proofs.YtbmpfjmnedlahacDoor
open Go.RowKit
set_option linter.unusedVariables false

def goodL : List UInt8 := [78, 97, 109, 101, 58, 32, 118, 97, 108, 117, 101]
def badL : List UInt8 := [110, 111, 32, 102, 105, 101, 108, 100]
theorem good_ok : fldOk goodL = true := by decide +kernel
theorem bad_no : fldOk badL = false := by decide +kernel
/-- The i-th line, with its end. -/
def ln (sp : Bool) (p i : Nat) : List UInt8 := if sp = true ∧ i = p then badL ++ [13, 10] else goodL ++ [13, 10]
def lnsF (sp : Bool) (p : Nat) : Nat → Nat → List UInt8
  | 0, _ => []
  | d + 1, i => ln sp p i ++ lnsF sp p d (i + 1)
theorem lnsF_snoc (sp : Bool) (p : Nat) : ∀ (d i : Nat), lnsF sp p (d + 1) i = lnsF sp p d i ++ ln sp p (i + d)
  | 0, i => by simp [lnsF]
  | d + 1, i => by
    rw [lnsF, lnsF_snoc sp p d (i + 1), lnsF, List.append_assoc, show i + 1 + d = i + (d + 1) by omega]
theorem ln_len (sp : Bool) (p i : Nat) : (ln sp p i).length ≤ 13 := by unfold ln; split <;> decide
theorem lnsF_len (sp : Bool) (p : Nat) : ∀ (d i : Nat), (lnsF sp p d i).length ≤ 13 * d
  | 0, i => Nat.le_refl _
  | d + 1, i => by
    rw [lnsF, List.length_append]
    have h1 := ln_len sp p i
    have h2 := lnsF_len sp p d (i + 1)
    omega
theorem lnsF_good (p : Nat) : ∀ (d i : Nat), (lnsF false p d i).length = 13 * d
  | 0, i => rfl
  | d + 1, i => by
    rw [lnsF, List.length_append, lnsF_good p d (i + 1)]
    unfold ln
    rw [if_neg (fun h => by cases h.1)]
    show 13 + 13 * d = _
    omega
theorem cut_line (s rest : List UInt8) (hp : plain s = true) (hl : s.length ≤ 256) : cutAt 256 0 (s ++ [13, 10] ++ rest) = (some s.length, 0) := by
  have hc := cutAt_plain 256 rest s 0 (by decide) hp
  rw [Nat.zero_add, if_neg (by omega)] at hc
  rw [show s ++ [13, 10] ++ rest = s ++ 13 :: 10 :: rest by simp]
  exact hc
theorem line_take (s rest : List UInt8) : (s ++ [13, 10] ++ rest).take s.length = s := by rw [List.append_assoc]; exact List.take_left' rfl
theorem line_drop (s rest : List UInt8) : (s ++ [13, 10] ++ rest).drop (s.length + 2) = rest := List.drop_left' (by rw [List.length_append]; rfl)
theorem trail_bad (r : Nat) (rest : List UInt8) : trailL r (badL ++ [13, 10] ++ rest) = (0, 20) :=
  trailL_bad (cut_line badL rest (by decide) (by decide)) (by decide) (by rw [line_take]; exact bad_no)
theorem trail_many (rest : List UInt8) : trailL 0 (goodL ++ [13, 10] ++ rest) = (0, 3) :=
  trailL_many (cut_line goodL rest (by decide) (by decide)) (by decide) (by rw [line_take]; exact good_ok)
theorem trail_good (r : Nat) (rest : List UInt8) : trailL (r + 1) (goodL ++ [13, 10] ++ rest) = plusN 13 (trailL r rest) := by
  rw [trailL_next (cut_line goodL rest (by decide) (by decide)) (by decide) (by rw [line_take]; exact good_ok), line_drop]
  rfl
theorem trail_end (r : Nat) : trailL r [13, 10] = (2, 0) := trailL_end (by decide)
theorem trail_lns (sp : Bool) (p : Nat) : ∀ (d i r : Nat), trailL r (lnsF sp p d i ++ [13, 10]) =
    if sp = true ∧ i ≤ p ∧ p < i + d then (if p - i ≤ r then (0, 20) else (0, 3)) else if d ≤ r then (13 * d + 2, 0) else (0, 3)
  | 0, i, r => by
    rw [lnsF, List.nil_append, trail_end, if_neg (by omega), if_pos (Nat.zero_le _)]
  | d + 1, i, r => by
    rw [lnsF, List.append_assoc]
    unfold ln
    by_cases hb : sp = true ∧ i = p
    · rw [if_pos hb, trail_bad, if_pos ⟨hb.1, by omega, by omega⟩, if_pos (by omega)]
    · rw [if_neg hb]
      cases r with
      | zero =>
        rw [trail_many]
        by_cases hc : sp = true ∧ i ≤ p ∧ p < i + (d + 1)
        · rw [if_pos hc, if_neg (by have := hc.1; have : ¬ i = p := fun e => hb ⟨hc.1, e⟩; omega)]
        · rw [if_neg hc, if_neg (by omega)]
      | succ r =>
        rw [trail_good, trail_lns sp p d (i + 1) r]
        by_cases hc : sp = true ∧ i ≤ p ∧ p < i + (d + 1)
        · have hne : ¬ i = p := fun e => hb ⟨hc.1, e⟩
          rw [if_pos hc, if_pos ⟨hc.1, by omega, by omega⟩]
          by_cases hr : p - i ≤ r + 1
          · rw [if_pos hr, if_pos (by omega)]; rfl
          · rw [if_neg hr, if_neg (by omega)]; rfl
        · rw [if_neg hc, if_neg (fun h => hc ⟨h.1, by omega, by omega⟩)]
          by_cases hr : d ≤ r
          · rw [if_pos hr, if_pos (by omega)]
            unfold plusN
            rw [if_neg (by simp only; omega)]
            congr 1
            simp only
            omega
          · rw [if_neg hr, if_neg (by omega)]; rfl
theorem Own.cutTo {B : Nat} {w : World} {a : Option Addr} {n c : Nat} {X : List UInt8} (h : Own B w (.slice a n c) X) (m : Nat) (hm : m ≤ n) : Own B w (.slice a m c) (X.take m) := by
  obtain ⟨h1, ⟨h2, h3⟩ | ⟨g, c', cur, hv, hB, hg, hl, hmx, hs, ht⟩⟩ := h
  · obtain ⟨e1, e2, e3⟩ := slice_inj h2
    subst e1 e2 e3
    obtain rfl : m = 0 := by omega
    rw [List.take_zero]
    exact Own.nil B w
  · obtain ⟨e1, e2, e3⟩ := slice_inj hv
    subst e1 e2 e3
    have hl2 : (X.take m).length = m := by rw [List.length_take]; omega
    refine ⟨by rw [rowB_length, hl2]; omega, .inr ⟨g, c, cur, by rw [hl2], hB, hg, by omega, hmx, hs, ?_⟩⟩
    rw [hl2, Nat.mul_one]
    rw [Nat.mul_one] at ht
    have : cur.toList.take m = (cur.toList.take X.length).take m := by rw [List.take_take, Nat.min_eq_left hm]
    rw [this, ht, rowB_take]

/-- What the last line asks, of what is told. -/
def trN (sp : Bool) (p n : Nat) : Nat × Int := trailL 40 (lnsF sp p n 0 ++ [13, 10])

set_option maxRecDepth 100000 in
set_option maxHeartbeats 8000000 in
theorem trails6_walk (kb len cap : Nat) (a : Option Addr) (b : List UInt8) (n0 : Int) (sp : Bool) (at_ : Int) (w : World) (hb : Src w kb (.slice a len cap) b) (hkb : 0 < b.length → kb < w.heap.size) (hM : MaxL w) (hT : TzOk w) :
    Calls Tryd.prog 4 #[.slice a len cap, .int .i64 n0, .bool sp, .int .i64 at_] w fun e w' => e = .returned (.bool true) ∧ Below w.heap.size w w' := by
  have hlb := hb.len.1
  obtain ⟨n, hn63, hbn0⟩ := and_mask n0 63 (by decide)
  have hbn : bits BinOp.and IntKind.i64 n0 63 = (n : Int) := hbn0
  obtain ⟨t, ht, hbt0⟩ := and_mask at_ 1023 (by decide)
  have hbt : bits BinOp.and IntKind.i64 at_ 1023 = (t : Int) := hbt0
  clear hbn0 hbt0
  go_enter Tryd.func4, Tryd.ntmps4
  go_wp2_with fail
  refine (alive6_any _ hM hT).mono ?_
  rintro e w1 ⟨rfl, B1⟩
  by_cases hlen : len ≤ 500
  · have i1 : (len : Int) ≤ 500 := by omega
    have HB : Hid (Src w kb (.slice a len cap) b) := hb
    have HM : Hid (MaxL w) := hM
    have HLB : Hid (b.length = len) := hlb
    have HKB : Hid (0 < b.length → kb < w.heap.size) := hkb
    have HE : Hid (Calls Tryd.prog 10 #[.slice a len cap, .int .i64 100] w1 fun e w' => ∃ v', e = .returned v' ∧ Own w1.heap.size w' v' (encR 100 b) ∧ Below w1.heap.size w1 w') := encode_any b kb _ 100 w1 (hb.keep hkb B1) (fun q => Nat.lt_of_lt_of_le (hkb q) B1.size) (hT.below B1) (by omega) (by decide)
    have hXl := encR_len 100 b
    rw [hlb] at hXl
    have hX1 : (encR 100 b).take ((encR 100 b).length - 2) = encC (b.length + 1) (max (100 : Int) 1).toNat b ++ [48, 13, 10] := by
      rw [encR_eq, List.length_append]
      show (encC (b.length + 1) (max (100 : Int) 1).toNat b ++ [48, 13, 10, 13, 10]).take ((encC (b.length + 1) (max (100 : Int) 1).toNat b).length + 5 - 2) = _
      rw [show encC (b.length + 1) (max (100 : Int) 1).toNat b ++ [48, 13, 10, 13, 10] = (encC (b.length + 1) (max (100 : Int) 1).toNat b ++ [48, 13, 10]) ++ [13, 10] by simp]
      exact List.take_left' (by rw [List.length_append]; rfl)
    have HDEC : Hid (∀ tail g, b.length < g → decL g 500 (encC (b.length + 1) (max (100 : Int) 1).toNat b ++ 48 :: 13 :: 10 :: tail) = plusD b ((encC (b.length + 1) (max (100 : Int) 1).toNat b).length + 3) ([], trailL 40 tail)) := fun tail g hg => dec_enc _ (by decide) tail (b.length + 1) g 500 b (by omega) hg (by omega) (by omega)
    have hCl : b.length ≤ (encC (b.length + 1) (max (100 : Int) 1).toNat b).length := encC_len _ (by decide) _ _ (by omega)
    have hXe : (encR 100 b).length = (encC (b.length + 1) (max (100 : Int) 1).toNat b).length + 5 := by rw [encR_eq, List.length_append]; rfl
    generalize encC (b.length + 1) (max (100 : Int) 1).toNat b = E at *
    generalize encR 100 b = X at *
    rw [hlb] at hCl
    clear hb hlb hkb hM hT
    go_wp2_with fail
    refine HE.out.mono ?_
    rintro e w2 ⟨v2, rfl, O2, B2⟩
    have C2 := B1.trans (B2.mono B1.size)
    obtain ⟨a2, c2, rfl, hn2⟩ := O2.form
    obtain ⟨x, hx⟩ : ∃ x, x = X.length := ⟨_, rfl⟩
    rw [← hx] at hXl hXe hX1 O2 ⊢
    have hcc := O2.src
    obtain ⟨kx, SX, _⟩ := hcc
    have hc1 := SX.len
    unfold maxLen at hc1
    have O3 := O2.cutTo (x - 2) (by omega)
    rw [hX1] at O3
    have HO3 : Hid (Own w1.heap.size w2 (.slice a2 (x - 2) c2) (E ++ [48, 13, 10] ++ lnsF sp (t % n) 0 0)) := by rw [Hid]; simpa [lnsF] using O3
    have hx2 : x - 2 ≤ 11003 := by omega
    have h1 := hc1.2.1
    have h2 := hc1.2.2
    have HXe : Hid (x = E.length + 5) := hXe
    clear hc1 SX O2 O3 hX1 HE hx hn2 hXe
    go_wp2_with fail
    go_loopw [9, 10] (fun v9 vi wr => ∃ k : Nat, k ≤ n ∧ vi = .int .i64 k ∧ Hid (Own w1.heap.size wr v9 (E ++ [48, 13, 10] ++ lnsF sp (t % n) k 0)) ∧ Below w1.heap.size w1 wr) (fun _ vi _ => n - (intOf vi).toNat)
    case atStart => exact ⟨0, Nat.zero_le _, rfl, HO3, B2⟩
    case round =>
      obtain ⟨k, hk, rfl, hO, hD⟩ := hrel
      clear HO3 B2
      have hCR := B1.trans (hD.mono B1.size)
      have hll := lnsF_len sp (t % n) k 0
      have hsn := lnsF_snoc sp (t % n) k 0
      rw [Nat.zero_add] at hsn
      have HSN : Hid (lnsF sp (t % n) (k + 1) 0 = lnsF sp (t % n) k 0 ++ ln sp (t % n) k) := hsn
      clear hsn
      have hlenO : Hid ((E ++ [48, 13, 10] ++ lnsF sp (t % n) k 0).length ≤ 20000) := by rw [Hid, List.length_append, List.length_append]; have := HXe.out; show _ + 3 + _ ≤ _; omega
      by_cases hlt : k < n
      · obtain ⟨p, hp⟩ : ∃ p, p = t % n := ⟨_, rfl⟩
        have hrem : ((t : Int)).tmod (n : Int) = (p : Int) := by rw [Int.tmod_eq_emod_of_nonneg (by omega), hp, Int.natCast_emod]
        have hnz : ¬ ((n : Int) = 0) := by omega
        rw [← hp] at HSN hO hlenO
        have HP : Hid (p = t % n) := hp
        clear hp hll
        obtain ⟨vb, wb, rb, Ob, Bb⟩ := own_append_str (s := ⟨#[110, 111, 32, 102, 105, 101, 108, 100, 13, 10]⟩) hO.out (by have := hlenO.out; show _ + 10 ≤ _; omega) hD.size
        obtain ⟨vg, wg, rg, Og, Bg⟩ := own_append_str (s := ⟨#[78, 97, 109, 101, 58, 32, 118, 97, 108, 117, 101, 13, 10]⟩) hO.out (by have := hlenO.out; show _ + 13 ≤ _; omega) hD.size
        have HOb : Hid (Own w1.heap.size wb vb (E ++ [48, 13, 10] ++ (lnsF sp p k 0 ++ (badL ++ [13, 10])))) := by rw [Hid, ← List.append_assoc]; exact Ob
        have HOg : Hid (Own w1.heap.size wg vg (E ++ [48, 13, 10] ++ (lnsF sp p k 0 ++ (goodL ++ [13, 10])))) := by rw [Hid, ← List.append_assoc]; exact Og
        have HDb : Hid (Below w1.heap.size w1 wb) := hD.trans Bb
        have HDg : Hid (Below w1.heap.size w1 wg) := hD.trans Bg
        clear Ob Og Bb Bg hO
        cases sp
        · have hl : Hid (ln false p k = goodL ++ [13, 10]) := by rw [Hid]; unfold ln; rw [if_neg (fun h => by cases h.1)]
          go_wp2_with (at_builtin; refine wpList_append_run2 rfl _ _ 25 9 rfl _ _ _ wg rfl rfl rg ?_)
          go_roundw
          case rel => exact ⟨k + 1, by omega, by go_num, (by rw [← HP.out, HSN.out, hl.out]; exact HOg), HDg.out⟩
          case measure => simp [intOf]; omega
        · by_cases hkp : k = p
          · have hl : Hid (ln true p k = badL ++ [13, 10]) := by rw [Hid]; unfold ln; rw [if_pos ⟨rfl, hkp⟩]
            have hkp' : ((k : Int) == (p : Int)) = true := by simp; omega
            go_wp2_with (at_builtin; refine wpList_append_run2 rfl _ _ 25 9 rfl _ _ _ wb rfl rfl rb ?_)
            go_roundw
            case rel => exact ⟨k + 1, by omega, by go_num, (by rw [← HP.out, HSN.out, hl.out]; exact HOb), HDb.out⟩
            case measure => simp [intOf]; omega
          · have hl : Hid (ln true p k = goodL ++ [13, 10]) := by rw [Hid]; unfold ln; rw [if_neg (fun h => hkp h.2)]
            have hkp' : ((k : Int) == (p : Int)) = false := by simp; omega
            go_wp2_with (at_builtin; refine wpList_append_run2 rfl _ _ 25 9 rfl _ _ _ wg rfl rfl rg ?_)
            go_roundw
            case rel => exact ⟨k + 1, by omega, by go_num, (by rw [← HP.out, HSN.out, hl.out]; exact HOg), HDg.out⟩
            case measure => simp [intOf]; omega
      · obtain rfl : k = n := by omega
        have BA : Below wr.heap.size wr (wr.alloc (.cells #[.int .u8 13, .int .u8 10] 5)) := (Below.refl _ _).alloc (Nat.le_refl _) _
        obtain ⟨v4, w4, r4, O4, B4⟩ := own_append (hO.out.keep BA) (lit_src wr [13, 10] 2 #[.int .u8 13, .int .u8 10] (0, 0) rfl (by decide) rfl) (fun e => by cases e) (by have := hlenO.out; show _ + 2 ≤ _; omega) (Nat.le_trans hD.size BA.size)
        have D4 : Below w1.heap.size w1 w4 := (hD.trans (BA.mono hD.size)).trans B4
        have C4 := B1.trans (D4.mono B1.size)
        obtain ⟨y, hy⟩ : ∃ y, y = (E ++ [48, 13, 10] ++ lnsF sp (t % k) k 0 ++ [13, 10]).length := ⟨_, rfl⟩
        have hXe := HXe.out
        have hyl : y = x - 2 + (lnsF sp (t % k) k 0).length + 2 := by rw [hy]; simp only [List.length_append, List.length_cons, List.length_nil]; omega
        have hdec : decR 500 (E ++ [48, 13, 10] ++ lnsF sp (t % k) k 0 ++ [13, 10]) = plusD b (x - 2) ([], trailL 40 (lnsF sp (t % k) k 0 ++ [13, 10])) := by
          have h := HDEC.out (lnsF sp (t % k) k 0 ++ [13, 10]) ((E ++ [48, 13, 10] ++ lnsF sp (t % k) k 0 ++ [13, 10]).length + 1) (by rw [← hy, HLB.out]; omega)
          rw [show E ++ 48 :: 13 :: 10 :: (lnsF sp (t % k) k 0 ++ [13, 10]) = E ++ [48, 13, 10] ++ lnsF sp (t % k) k 0 ++ [13, 10] by simp, show E.length + 3 = x - 2 by omega] at h
          exact h
        rw [trail_lns] at hdec
        obtain ⟨k4, S4, hk4⟩ := O4.src
        have HD4 := decode_any (E ++ [48, 13, 10] ++ lnsF sp (t % k) k 0 ++ [13, 10]) k4 v4 500 w4 S4 (fun q => (hk4 q).2) (HM.out.below C4) (by rw [← hy]; omega) (by decide)
        rw [show (500 : Int).toNat = 500 from rfl, hdec] at HD4
        obtain ⟨a4, c4, rfl, _⟩ := O4.form
        rw [← hy] at HD4 r4
        have hgl : (sp = false ∨ k = 0) → (lnsF sp (t % k) k 0).length = 13 * k := by
          intro h
          rcases h with h | h
          · rw [h]; exact lnsF_good _ _ _
          · subst h; rfl
        clear hdec S4 hk4 O4 hO hlenO HDEC HSN B4 BA hy
        generalize (lnsF sp (t % k) k 0).length = lnl at *
        have HYL : Hid (y = x - 2 + lnl + 2) := hyl
        have hy5 : y ≤ 20000 := by omega
        clear hyl hXe
        cases sp
        · have HG2 : Hid (lnl = 13 * k) := hgl (.inl rfl)
          clear hgl
          rw [if_neg (fun h => by cases h.1)] at HD4
          by_cases hn40 : k ≤ 40
          · have hn41 : ¬ (40 : Int) < (k : Int) := by omega
            rw [if_pos hn40] at HD4
            have HDE : Hid (Calls Tryd.prog 8 #[.slice a4 y c4, .int .i64 500] w4 (DecQ w4 (b, y, 0))) := by
              have e : plusD b (x - 2) ([], 13 * k + 2, 0) = (b, y, 0) := by
                unfold plusD
                rw [if_neg (by simp only; omega), List.append_nil]
                congr 2
                have h1 := HYL.out
                have h2 := HG2.out
                simp only
                omega
              rw [e] at HD4
              exact HD4
            clear HD4
            go_wp2_with (at_builtin; refine wpList_append_run2 rfl _ _ 25 25 rfl _ _ _ w4 rfl rfl r4 ?_)
            refine HDE.out.mono ?_
            rintro e w5 ⟨v5, rfl, O5, B5⟩
            have C5 := C4.trans (B5.mono C4.size)
            simp only at O5
            obtain ⟨k5, S5, _⟩ := O5.src
            obtain ⟨a5, c5, rfl, _⟩ := O5.form
            rw [HLB.out] at S5 ⊢
            have HSM : Hid (Calls Tryd.prog 9 #[.slice a5 len c5, .slice a len cap] w5 fun e w' => e = .returned (.bool true) ∧ Below w5.heap.size w5 w') := sameBytes_eq b _ _ _ _ w5 S5 (HB.out.keep HKB.out C5)
            clear S5 O5 HDE
            go_wp2_with fail
            refine HSM.out.mono ?_
            rintro e w6 ⟨rfl, B6⟩
            go_wp2
            go_ret
            exact ⟨rfl, C5.trans (B6.mono C5.size)⟩
          · have hn41 : (40 : Int) < (k : Int) := by omega
            rw [if_neg hn40] at HD4
            have HDE : Hid (Calls Tryd.prog 8 #[.slice a4 y c4, .int .i64 500] w4 (DecQ w4 ([], 0, 3))) := HD4
            clear HD4
            go_wp2_with (at_builtin; refine wpList_append_run2 rfl _ _ 25 25 rfl _ _ _ w4 rfl rfl r4 ?_)
            refine HDE.out.mono ?_
            rintro e w5 ⟨v5, rfl, O5, B5⟩
            have C5 := C4.trans (B5.mono C4.size)
            clear O5 HDE
            go_wp2
            go_ret
            exact ⟨rfl, C5⟩
        · by_cases hk0 : k = 0
          · subst hk0
            have hg2 := hgl (.inr rfl)
            clear hgl
            rw [if_neg (fun h => by omega), if_pos (by omega)] at HD4
            obtain ⟨k, hk00⟩ : ∃ k, k = 0 := ⟨0, rfl⟩
            rw [← hk00] at hg2 HD4
            have HG2 : Hid (lnl = 13 * k) := hg2
            have HK0 : Hid (k = 0) := hk00
            clear hg2 hk00
            have HDE : Hid (Calls Tryd.prog 8 #[.slice a4 y c4, .int .i64 500] w4 (DecQ w4 (b, y, 0))) := by
              have e : plusD b (x - 2) ([], 13 * k + 2, 0) = (b, y, 0) := by
                unfold plusD
                rw [if_neg (by simp only; omega), List.append_nil]
                congr 2
                have h1 := HYL.out
                have h2 := HG2.out
                simp only
                omega
              rw [e] at HD4
              exact HD4
            clear HD4
            go_wp2_with (at_builtin; refine wpList_append_run2 rfl _ _ 25 25 rfl _ _ _ w4 rfl rfl r4 ?_)
            refine HDE.out.mono ?_
            rintro e w5 ⟨v5, rfl, O5, B5⟩
            have C5 := C4.trans (B5.mono C4.size)
            simp only at O5
            obtain ⟨k5, S5, _⟩ := O5.src
            obtain ⟨a5, c5, rfl, _⟩ := O5.form
            rw [HLB.out] at S5 ⊢
            have HSM : Hid (Calls Tryd.prog 9 #[.slice a5 len c5, .slice a len cap] w5 fun e w' => e = .returned (.bool true) ∧ Below w5.heap.size w5 w') := sameBytes_eq b _ _ _ _ w5 S5 (HB.out.keep HKB.out C5)
            clear S5 O5 HDE
            go_wp2_with fail
            refine HSM.out.mono ?_
            rintro e w6 ⟨rfl, B6⟩
            go_wp2
            go_ret
            exact ⟨rfl, C5.trans (B6.mono C5.size)⟩
          · clear hgl
            obtain ⟨p, hp⟩ : ∃ p, p = t % k := ⟨_, rfl⟩
            have hpk : p < k := by rw [hp]; exact Nat.mod_lt _ (by omega)
            have hrem : ((t : Int)).tmod (k : Int) = (p : Int) := by rw [Int.tmod_eq_emod_of_nonneg (by omega), hp, Int.natCast_emod]
            have hmx : max (k : Int) 1 = (k : Int) := by omega
            have hnz : ¬ ((k : Int) = 0) := by omega
            have hk1 : (0 : Int) < (k : Int) := by omega
            rw [← hp, if_pos ⟨rfl, Nat.zero_le _, by omega⟩, Nat.sub_zero] at HD4
            clear hp hk0
            by_cases hp40 : p ≤ 40
            · have hp41 : (p : Int) ≤ 40 := by omega
              rw [if_pos hp40] at HD4
              have HDE : Hid (Calls Tryd.prog 8 #[.slice a4 y c4, .int .i64 500] w4 (DecQ w4 ([], 0, 20))) := HD4
              clear HD4
              go_wp2_with (at_builtin; refine wpList_append_run2 rfl _ _ 25 25 rfl _ _ _ w4 rfl rfl r4 ?_)
              refine HDE.out.mono ?_
              rintro e w5 ⟨v5, rfl, O5, B5⟩
              have C5 := C4.trans (B5.mono C4.size)
              clear O5 HDE
              go_wp2
              go_ret
              exact ⟨rfl, C5⟩
            · have hp41 : ¬ (p : Int) ≤ 40 := by omega
              have hn41 : (40 : Int) < (k : Int) := by omega
              rw [if_neg hp40] at HD4
              have HDE : Hid (Calls Tryd.prog 8 #[.slice a4 y c4, .int .i64 500] w4 (DecQ w4 ([], 0, 3))) := HD4
              clear HD4
              go_wp2_with (at_builtin; refine wpList_append_run2 rfl _ _ 25 25 rfl _ _ _ w4 rfl rfl r4 ?_)
              refine HDE.out.mono ?_
              rintro e w5 ⟨v5, rfl, O5, B5⟩
              have C5 := C4.trans (B5.mono C4.size)
              clear O5 HDE
              go_wp2
              go_ret
              exact ⟨rfl, C5⟩
  · have i1 : (500 : Int) < (len : Int) := by omega
    clear hb hkb hM hT hlen hlb
    go_wp2
    go_ret
    exact ⟨rfl, B1⟩
end Go.Proofs.YtbmpfjmnedlahacDoor
