/- Whatever the bytes and the numbers, RingOrder answers true: what is put in, in pieces, comes out in its order, in other pieces; no condition. -/
import Derived.Test.YtdifcagmkkccoaaRows
import Derived.WalkKit
import Derived.ProofKit
import Derived.OpenShut
import Derived.Below
import Derived.Test.YtdifcagmkkccoaaRingH
namespace Go.Proofs.Ytdifcagmkkccoaa.ringOrder
open Go.ChangeShapes Go.WideShapes Go.ChangeAt Go.RowKit
set_option linter.unusedVariables false

theorem own : ownKnob Try.prog.godebug = none := by kernel_rfl
theorem and_mask (n : Int) (m : Nat) (hm : m < 9223372036854775808) : ∃ k : Nat, k ≤ m ∧ bits .and .i64 n (m : Int) = (k : Int) := by
  have h2 : (BitVec.ofInt 64 (m : Int)).toNat = m := by
    rw [BitVec.ofInt_natCast, BitVec.toNat_ofNat]; exact Nat.mod_eq_of_lt (by omega)
  have hk : (BitVec.ofInt 64 n &&& BitVec.ofInt 64 (m : Int)).toNat ≤ m := by
    rw [BitVec.toNat_and, h2]; exact Nat.and_le_right
  refine ⟨(BitVec.ofInt 64 n &&& BitVec.ofInt 64 (m : Int)).toNat, hk, ?_⟩
  show IntKind.i64.wrap ((BitVec.ofInt 64 n &&& BitVec.ofInt 64 (m : Int)).toNat : Int) = _
  rw [IntKind.wrap_i64]
  generalize (BitVec.ofInt 64 n &&& BitVec.ofInt 64 (m : Int)).toNat = k at *
  omega
/-- A list of numbers that came in. -/
def Nums (w : World) (a : Option Addr) (len : Nat) : Prop := len ≤ maxLen ∧ (0 < len → ∃ b off, a = some ⟨b, off, none⟩ ∧ b < w.heap.size ∧ ∀ i, i < len → ∃ z, w.cell? ⟨b, off + i, none⟩ = some (.int .i64 z))
theorem laidOut : laidOutB Try.prog = true := by kernel_rfl
theorem cell_lt {w : World} {x : Addr} {v : Value} (h : w.cell? x = some v) : x.block < w.heap.size := by
  unfold World.cell? at h
  rcases Nat.lt_or_ge x.block w.heap.size with c | c
  · exact c
  · simp [Array.getElem?_eq_none c] at h
theorem open_nums {H : Type} {enc : TypeId × Value → H} {w : World} {base : Nat} {held : Bool} {a : Option Addr} {len cap : Nat} {x : DataW H × List MemPlace}
    (h : ∃ fuel, DataW.trod enc Try.prog w base (fun _ => true) held fuel 47 (Value.slice a len cap).cells.toList = some x) : Nums w a len := by
  obtain ⟨fuel, hf⟩ := h
  rcases open_ints Try.underlying47 Try.underlying3 (by kernel_rfl) hf with ⟨hcs, _⟩ | ⟨x, l, c, zs, hcs, _, hl, hm, hz, _, hcell, hwz⟩
  · simp [Value.cells] at hcs
    obtain ⟨rfl, rfl, rfl⟩ := hcs
    exact ⟨Nat.zero_le _, fun h => absurd h (Nat.lt_irrefl _)⟩
  · simp [Value.cells] at hcs
    obtain ⟨rfl, rfl, rfl⟩ := hcs
    have hz' : zs.length = cap := by simpa using hz
    refine ⟨Nat.le_trans hl hm, fun hp => ?_⟩
    obtain ⟨b, off, rfl, hc⟩ := ints_at hcell (by omega)
    exact ⟨b, off, rfl, cell_lt (hc 0 (by omega)), fun i hi => ⟨_, hc i (by omega)⟩⟩
theorem open_bytes {H : Type} {enc : TypeId × Value → H} {w : World} {base : Nat} {held : Bool} {a : Option Addr} {len cap : Nat} {x : DataW H × List MemPlace}
    (h : ∃ fuel, DataW.trod enc Try.prog w base (fun _ => true) held fuel 35 (Value.slice a len cap).cells.toList = some x) : ∃ kb b, Src w kb (.slice a len cap) b ∧ (0 < b.length → kb < w.heap.size) := by
  obtain ⟨fuel, hf⟩ := h
  rcases open_ints Try.underlying35 Try.underlying5 (by kernel_rfl) hf with ⟨hcs, _⟩ | ⟨x, l, c, zs, hcs, _, hl, hm, hz, _, hcell, hwz⟩
  · simp [Value.cells] at hcs
    obtain ⟨rfl, rfl, rfl⟩ := hcs
    exact ⟨0, [], ⟨none, 0, rfl, Nat.le_refl _, Nat.zero_le _, fun h => absurd h (Nat.lt_irrefl _)⟩, fun h => absurd h (Nat.lt_irrefl _)⟩
  · simp [Value.cells] at hcs
    obtain ⟨rfl, rfl, rfl⟩ := hcs
    have hz' : zs.length = cap := by simpa using hz
    have hbl : ((zs.take len).map fun z => z.toNat.toUInt8).length = len := by rw [List.length_map, List.length_take]; omega
    rcases Nat.eq_zero_or_pos len with h0 | h0
    · subst h0
      exact ⟨0, [], ⟨some x, cap, rfl, Nat.zero_le _, hm, fun h => absurd h (Nat.lt_irrefl _)⟩, fun h => absurd h (Nat.lt_irrefl _)⟩
    · obtain ⟨b, off, rfl, hc⟩ := ints_at hcell (by omega)
      refine ⟨b, (zs.take len).map fun z => z.toNat.toUInt8, ⟨_, cap, by rw [hbl], by rw [hbl]; exact hl, hm, fun _ => ⟨off, rfl, fun j hj => ?_⟩⟩, fun _ => cell_lt (hc 0 (by omega))⟩
      have hj' : j < len := by rw [hbl] at hj; exact hj
      rw [hc j (by omega)]
      have hg : zs.getD j 0 = zs[j]'(by omega) := by simp [List.getD, List.getElem?_eq_getElem (show j < zs.length by omega)]
      have hb := bounds_u8 (hwz _ (List.getElem_mem (show j < zs.length by omega)))
      rw [hg, List.getElem_map, List.getElem_take]
      unfold bv
      generalize zs[j]'(by omega) = z at hb
      have e : (z.toNat.toUInt8.toNat : Int) = z := by
        have : z.toNat.toUInt8.toNat = z.toNat := by simp; omega
        rw [this]; omega
      rw [e]
theorem max62 (l : List UInt8) (h : l.length ≤ 5000) : clp 4611686018427387904 l.length = l.length := by unfold clp; rw [if_neg (by decide), if_pos (by omega)]

set_option maxRecDepth 100000 in
set_option maxHeartbeats 8000000 in
theorem walk (kb len0 cap0 : Nat) (a0 : Option Addr) (b : List UInt8) (a1 : Option Addr) (len1 cap1 : Nat) (a2 : Option Addr) (len2 cap2 : Nat) (w : World) (hb : Src w kb (.slice a0 len0 cap0) b) (hkb : 0 < b.length → kb < w.heap.size) (h1 : Nums w a1 len1) (h2 : Nums w a2 len2) :
    Calls Try.prog 4 #[.slice a0 len0 cap0, .slice a1 len1 cap1, .slice a2 len2 cap2] w fun e w' => e = .returned (.bool true) ∧ Below w.heap.size w w' := by
  obtain rfl : b.length = len0 := by obtain ⟨_, _, e, _⟩ := hb; injection e with e1 e2 e3; exact e2.symm
  obtain ⟨l1, n1⟩ := h1
  obtain ⟨l2, n2⟩ := h2
  unfold maxLen at l1 l2
  have hb0 : Hid (Src w kb (.slice a0 b.length cap0) b) := hb
  have hms : mst 5000 = 5000 := by decide
  clear hb
  go_enter Try.func4, Try.ntmps4
  go_wp2_with fail
  refine (new_m 5000 _).mono ?_
  rw [hms]
  rintro e w1 ⟨mb, rfl, hmb, M1, B1⟩
  clear hms
  go_wp2_with fail
  refine (alive_any _).mono ?_
  rintro e w2 ⟨rfl, B2⟩
  have C2 := B1.trans (B2.mono B1.size)
  by_cases hlong : 5000 < b.length
  · have hlo : (5000 : Int) < (b.length : Int) := by omega
    clear hlong
    go_wp2
    go_ret
    exact ⟨rfl, C2⟩
  · have hlo : ¬ (5000 : Int) < (b.length : Int) := by omega
    have T0 := many_start (w0 := w) (Below.isM B2 M1.lt M1) (by omega) (by omega) (by omega) C2
    clear B1 B2 M1 C2 hmb
    go_wp2_with fail
    refine (many_new T0).mono ?_
    rintro e w3 ⟨r, rfl, hr, T1, B3⟩
    clear T0 B3 hr
    have T2 := T1.alloc (.cells #[] 5)
    have A2 := Acc.empty w3
    have S2 : Hid (Src (w3.alloc (.cells #[] 5)) kb (.slice a0 b.length cap0) b) := by
      rcases Nat.eq_zero_or_pos b.length with c | c
      · obtain ⟨x, y, e, q1, q2, q3⟩ := hb0.out
        exact ⟨x, y, e, q1, q2, fun q => by omega⟩
      · exact hb0.out.frame (T2.bel.block kb (hkb c))
    have T3 : Many (fun k => k < w.heap.size ∨ k = w3.heap.size) w (w3.alloc (.cells #[] 5)) mb [r] [[]] 5000 0 := T2
    have hwg : w.heap.size ≤ w3.heap.size := T1.bel.size
    clear T1 T2
    go_wp2_with fail
    clear hlo
    go_loopw [9, 10, 29] (fun vr vo vi wr => ∃ (k : Nat) (O L R : List UInt8) (g : Nat) (p : Int), k ≤ len1 ∧ vi = .int .i64 k ∧ Hid (b = O ++ L ++ R) ∧ Src wr kb vr R ∧ w.heap.size ≤ g ∧ Acc wr g vo O ∧ Hid (Many (fun k => k < w.heap.size ∨ k = g) w wr mb [r] [L] 5000 p)) (fun vr vo vi _ => len1 - (intOf vi).toNat)
    case atStart => exact ⟨0, [], [], b, w3.heap.size, 0, Nat.zero_le _, rfl, rfl, S2.out, hwg, A2, T3⟩
    case round =>
      obtain ⟨k, O, L, R, g, p, hk, rfl, hbe, hsr, hg, hac, hT⟩ := hrel
      clear S2 A2 T3 hwg
      have hbl : Hid (b.length = O.length + L.length + R.length) := by rw [Hid, hbe.out, List.length_append, List.length_append]
      have hkR : Hid (0 < R.length → kb < w.heap.size) := fun q => hkb (by have := hbl.out; omega)
      by_cases hlt : k < len1
      · obtain ⟨b1, o1, rfl, hb1, hc1⟩ := n1 (by omega)
        obtain ⟨z, hz⟩ := hc1 k hlt
        have hcell := (hT.out.bel.cell (p := ⟨b1, o1 + k, none⟩) hb1).trans hz
        clear hz hc1
        obtain ⟨t, ht, hbt0⟩ := and_mask z 1023 (by decide)
        have hbt : bits BinOp.and IntKind.i64 z 1023 = (t : Int) := hbt0
        clear hbt0
        obtain ⟨ar, cr, rfl, hr1, hr2, hr3⟩ := hsr
        have HSR : Hid (Src wr kb (.slice ar R.length cr) R) := ⟨ar, cr, rfl, hr1, hr2, hr3⟩
        clear hr3
        unfold maxLen at hr2
        obtain ⟨q, hq⟩ : ∃ q, q = t % (R.length + 1) := ⟨_, rfl⟩
        have hqR : q ≤ R.length := by rw [hq]; exact Nat.le_of_lt_succ (Nat.mod_lt _ (Nat.succ_pos _))
        have hR5 : R.length ≤ 5000 := by have := hbl.out; omega
        have hrem : ((t : Int)).tmod ((R.length : Int) + 1) = (q : Int) := by rw [Int.tmod_eq_emod_of_nonneg (by omega), hq, Int.natCast_emod]; rfl
        have hnz : ¬ ((R.length : Int) + 1 = 0) := by omega
        clear hq
        obtain ⟨co, rfl⟩ := hac.form
        obtain ⟨k1, hk1, S1⟩ := (HSR.out.take (m := q) hqR).any (g := g) (B := w.heap.size) (fun c => hkR.out (by rw [List.length_take] at c; omega))
        have hfit : Hid ((tot [L] : Int) + (R.take q).length ≤ 5000) := by
          have := hbl.out
          rw [Hid, List.length_take, show tot [L] = L.length by simp [tot]]; omega
        have HP : Hid (Calls Try.prog 12 #[.pointer (some ⟨r, 0, none⟩), .slice ar q cr] wr fun e w' => e = .returned (.bool true) ∧ Many (fun k => k < w.heap.size ∨ k = g) w w' mb [r] [L ++ R.take q] 5000 p ∧ (∀ k, (k < w.heap.size ∨ k = g) → w'.heap[k]? = wr.heap[k]?)) := by
          refine (many_put 0 r k1 L (R.take q) _ hT.out rfl rfl S1 hk1).mono ?_
          rintro e w' ⟨rfl, y1, y2, y3⟩
          rw [if_pos hfit.out] at y1
          exact ⟨by rw [decide_eq_true hfit.out], y1, y2⟩
        clear S1 hk1 hfit
        have HB0 : Hid ((b.length : Int) ≤ 5000) := by rw [Hid]; omega
        go_wp2_with fail
        refine HP.out.mono ?_
        rintro e w4 ⟨rfl, T4, F4⟩
        clear HP hcell
        have A4 : Acc w4 g (.slice (some ⟨g, 0, none⟩) O.length co) O := hac.frame (F4 g (.inr rfl))
        have S4 : Hid (Src w4 kb (.slice ar R.length cr) R) := by
          rcases Nat.eq_zero_or_pos R.length with c | c
          · obtain ⟨x, y, e, q1, q2, q3⟩ := HSR.out
            exact ⟨x, y, e, q1, q2, fun q => by omega⟩
          · exact HSR.out.frame (F4 kb (.inl (hkR.out c)))
        have HT4 : Hid (Many (fun k => k < w.heap.size ∨ k = g) w w4 mb [r] [L ++ R.take q] 5000 p) := T4
        clear T4 F4 HSR hT hac
        obtain ⟨L1, hL1⟩ : ∃ L1, L1 = L ++ R.take q := ⟨_, rfl⟩
        have hL1l : L1.length = L.length + q := by rw [hL1, List.length_append, List.length_take]; omega
        have HL1 : Hid (L1 = L ++ R.take q) := hL1
        rw [← hL1] at HT4
        clear hL1
        have hL5 : Hid (O.length + L1.length ≤ 5000) := by rw [Hid]; have := hbl.out; omega
        by_cases hi2 : k < len2
        · obtain ⟨b2, o2, rfl, hb2, hc2⟩ := n2 (by omega)
          obtain ⟨z2, hz2⟩ := hc2 k hi2
          have hcell2 := (HT4.out.bel.cell (p := ⟨b2, o2 + k, none⟩) hb2).trans hz2
          clear hz2 hc2
          obtain ⟨t2, ht2, hbt20⟩ := and_mask z2 127 (by decide)
          have hbt2 : bits BinOp.and IntKind.i64 z2 127 = (t2 : Int) := hbt20
          clear hbt20
          have hNl := clp_le (t2 : Int) L1.length
          have HTK := many_take 0 r L1 (t2 : Int) HT4.out rfl rfl
          generalize clp (t2 : Int) L1.length = N at *
          have HTK2 : Hid (Calls Try.prog 14 #[.pointer (some ⟨r, 0, none⟩), .int .i64 (t2 : Int)] w4 fun e w' => ∃ v5 w5 g5 gx, e = .returned (.slice (some ⟨gx, 0, none⟩) N N) ∧ (Builtin.append_ #[35, 35] 35 #[.slice (some ⟨g, 0, none⟩) O.length co, .slice (some ⟨gx, 0, none⟩) N N]).run Try.prog w' = .ok v5 w5 ∧ Acc w5 g5 v5 (O ++ L1.take N) ∧ w.heap.size ≤ g5 ∧
              Many (fun k => k < w.heap.size ∨ k = g5) w w5 mb [r] [L1.drop N] 5000 (gvP (tot [L1] : Nat) p N) ∧ Src w5 kb (.slice ar R.length cr) R) := by
            refine HTK.mono ?_
            rintro e w' ⟨gx, rfl, y1, y2, y3, y4, y5⟩
            have hln : (L1.take N).length = N := by rw [List.length_take]; omega
            have A5 := A4.frame (y4 g (.inr rfl))
            obtain ⟨v5, w5, g5, e1, e2, e3, e4⟩ := acc_append A5 (src_row y2 hln (by unfold maxLen; have := hL5.out; omega)) (fun c => by cases c) (by have := hL5.out; omega)
            have hwl := y3.bel.size
            refine ⟨v5, w5, g5, gx, rfl, e1, e2, by omega, ?_, ?_⟩
            · refine y3.step e4 (fun i hi => ?_) (fun i hi => ?_)
              · subst hi; exact ⟨.inl (.inl (.inr rfl)), hg⟩
              · rcases hi with hi | hi
                · exact .inl (.inl (.inl hi))
                · subst hi
                  rcases e3 with e3 | e3
                  · exact .inl (.inl (.inr e3))
                  · exact .inr e3
            · rcases Nat.eq_zero_or_pos R.length with c | c
              · obtain ⟨x, y, e, q1, q2, q3⟩ := S4.out
                exact ⟨x, y, e, q1, q2, fun q => by omega⟩
              · have hk := hkR.out c
                refine S4.out.frame ((e4.block kb (by omega) (by omega)).trans (y4 kb (.inl hk)))
          clear HTK
          go_wp2_with fail
          all_goals
            refine HTK2.out.mono ?_
            rintro e w6 ⟨v5, w5, g5, gx, rfl, hrun5, A5, hg5, T5, S5⟩
            have HT5 : Hid (Many (fun k => k < w.heap.size ∨ k = g5) w w5 mb [r] [L1.drop N] 5000 (gvP (tot [L1] : Nat) p N)) := T5
            have HS5 : Hid (Src w5 kb (.slice ar R.length _) R) := S5
            have HNUM : Hid ((O ++ L1.take N).length + (L1.drop N).length = O.length + L.length + q) := by rw [Hid, List.length_append, List.length_take, List.length_drop]; omega
            have HEQ : Hid (b = (O ++ L1.take N) ++ L1.drop N ++ R.drop q) := by
              have e : (O ++ L1.take N) ++ L1.drop N = O ++ L1 := by rw [List.append_assoc, List.take_append_drop]
              rw [Hid, e, hbe.out, HL1.out]; simp
            clear T5 S5 HTK2
            obtain ⟨c5, rfl⟩ := A5.form
            generalize hO1 : O ++ L1.take N = O1 at *
            generalize hL2 : L1.drop N = L2 at *
            clear hO1 hL2
            have MM := HT5.out.isM
            rw [show tot [L2] = L2.length by simp [tot]] at MM
            have hnum : (b.length : Int) - ((R.length - q : Nat) : Int) - (O1.length : Int) = (L2.length : Int) := by have := HNUM.out; have := hbl.out; omega
            have hbb : (b.length : Int) ≤ 5000 := HB0.out
            go_wp2_with (at_builtin; refine wpList_append_run rfl _ _ 35 rfl _ _ _ w5 rfl rfl hrun5 ?_)
            refine (held_q mb _ _ _ _ MM).mono ?_
            rintro e w7 ⟨rfl, rfl⟩
            go_wp2_with fail
            refine (many_len 0 r L2 HT5.out rfl rfl).mono ?_
            rintro e w8 ⟨rfl, rfl⟩
            go_wp2_with fail
            refine (held_q mb _ _ _ _ MM).mono ?_
            rintro e w9 ⟨rfl, rfl⟩
            clear hnum
            go_wp2
            go_roundw
            case rel =>
              refine ⟨k + 1, O1, L2, R.drop q, g5, _, by omega, by go_num, HEQ, ?_, hg5, A5, HT5⟩
              first
                | exact HS5.out.cut (m := q) hqR (fun _ => rfl)
                | (have hx := HS5.out.cut (m := q) (a' := ar) hqR (fun h => by omega); rw [show cr - q = 0 by omega] at hx; exact hx)
            case measure => simp [intOf]; omega
        · go_wp2_with fail
          all_goals
            have HNUM : Hid (O.length + L1.length = O.length + L.length + q) := by rw [Hid]; omega
            have HEQ : Hid (b = O ++ L1 ++ R.drop q) := by rw [Hid, hbe.out, HL1.out]; simp
            have MM := HT4.out.isM
            rw [show tot [L1] = L1.length by simp [tot]] at MM
            have hnum : (b.length : Int) - ((R.length - q : Nat) : Int) - (O.length : Int) = (L1.length : Int) := by have := HNUM.out; have := hbl.out; omega
            have hbb : (b.length : Int) ≤ 5000 := HB0.out
            go_wp2_with fail
            refine (held_q mb _ _ _ _ MM).mono ?_
            rintro e w7 ⟨rfl, rfl⟩
            go_wp2_with fail
            refine (many_len 0 r L1 HT4.out rfl rfl).mono ?_
            rintro e w8 ⟨rfl, rfl⟩
            go_wp2_with fail
            refine (held_q mb _ _ _ _ MM).mono ?_
            rintro e w9 ⟨rfl, rfl⟩
            clear hnum
            go_wp2
            go_roundw
            case rel =>
              refine ⟨k + 1, O, L1, R.drop q, g, _, by omega, by go_num, HEQ, ?_, hg, A4, HT4⟩
              first
                | exact S4.out.cut (m := q) hqR (fun _ => rfl)
                | (have hx := S4.out.cut (m := q) (a' := ar) hqR (fun h => by omega); rw [show cr - q = 0 by omega] at hx; exact hx)
            case measure => simp [intOf]; omega
      · obtain ⟨ar, cr, rfl, hr1, hr2, hr3⟩ := hsr
        have HSR : Hid (Src wr kb (.slice ar R.length cr) R) := ⟨ar, cr, rfl, hr1, hr2, hr3⟩
        clear hr3
        unfold maxLen at hr2
        obtain ⟨co, rfl⟩ := hac.form
        obtain ⟨k1, hk1, S1⟩ := HSR.out.any (g := g) (B := w.heap.size) hkR.out
        have hfit : Hid ((tot [L] : Int) + R.length ≤ 5000) := by
          have := hbl.out
          rw [Hid, show tot [L] = L.length by simp [tot]]; omega
        have HP : Hid (Calls Try.prog 12 #[.pointer (some ⟨r, 0, none⟩), .slice ar R.length cr] wr fun e w' => e = .returned (.bool true) ∧ Many (fun k => k < w.heap.size ∨ k = g) w w' mb [r] [L ++ R] 5000 p ∧ (∀ k, (k < w.heap.size ∨ k = g) → w'.heap[k]? = wr.heap[k]?)) := by
          refine (many_put 0 r k1 L R _ hT.out rfl rfl S1 hk1).mono ?_
          rintro e w' ⟨rfl, y1, y2, y3⟩
          rw [if_pos hfit.out] at y1
          exact ⟨by rw [decide_eq_true hfit.out], y1, y2⟩
        clear S1 hk1 hfit
        go_wp2_with fail
        refine HP.out.mono ?_
        rintro e w4 ⟨rfl, T4, F4⟩
        have A4 : Acc w4 g (.slice (some ⟨g, 0, none⟩) O.length co) O := hac.frame (F4 g (.inr rfl))
        clear HP hac hT HSR
        obtain ⟨L1, hL1⟩ : ∃ L1, L1 = L ++ R := ⟨_, rfl⟩
        have hL1l : L1.length = L.length + R.length := by rw [hL1, List.length_append]
        have HOB : Hid (O ++ L1 = b) := by rw [Hid, hL1, ← List.append_assoc]; exact hbe.out.symm
        rw [← hL1] at T4
        clear hL1
        have hL5 : Hid (O.length + L1.length ≤ 5000) := by rw [Hid]; have := hbl.out; omega
        clear hL1l
        have HTK := many_take 0 r L1 4611686018427387904 T4 rfl rfl
        rw [max62 L1 (by have := hL5.out; omega), List.take_length, List.drop_length] at HTK
        have HTK2 : Hid (Calls Try.prog 14 #[.pointer (some ⟨r, 0, none⟩), .int .i64 4611686018427387904] w4 fun e w' => ∃ v5 w5 g5 gx p5, e = .returned (.slice (some ⟨gx, 0, none⟩) L1.length L1.length) ∧ (Builtin.append_ #[35, 35] 35 #[.slice (some ⟨g, 0, none⟩) O.length co, .slice (some ⟨gx, 0, none⟩) L1.length L1.length]).run Try.prog w' = .ok v5 w5 ∧ Acc w5 g5 v5 b ∧
            Many (fun k => k < w.heap.size ∨ k = g5) w w5 mb [r] [[]] 5000 p5 ∧ Src w5 kb (.slice a0 b.length cap0) b) := by
          refine HTK.mono ?_
          rintro e w' ⟨gx, rfl, y1, y2, y3, y4, y5⟩
          have A5 := A4.frame (y4 g (.inr rfl))
          obtain ⟨v5, w5, g5, e1, e2, e3, e4⟩ := acc_append A5 (src_row y2 rfl (by unfold maxLen; have := hL5.out; omega)) (fun c => by cases c) (by have := hL5.out; omega)
          have hwl := y3.bel.size
          rw [HOB.out] at e2
          have y6 : Many (fun k => k < w.heap.size ∨ k = g5) w w5 mb [r] [[]] 5000 (gvP (tot [L1] : Nat) p L1.length) := by
            refine y3.step e4 (fun i hi => ?_) (fun i hi => ?_)
            · subst hi; exact ⟨.inl (.inl (.inr rfl)), hg⟩
            · rcases hi with hi | hi
              · exact .inl (.inl (.inl hi))
              · subst hi
                rcases e3 with e3 | e3
                · exact .inl (.inl (.inr e3))
                · exact .inr e3
          refine ⟨v5, w5, g5, gx, _, rfl, e1, e2, y6, ?_⟩
          rcases Nat.eq_zero_or_pos b.length with c | c
          · obtain ⟨x, y, e, q1, q2, q3⟩ := hb0.out
            exact ⟨x, y, e, q1, q2, fun q => by omega⟩
          · exact hb0.out.frame (y6.bel.block kb (hkb c))
        clear HTK T4
        go_wp2_with fail
        refine HTK2.out.mono ?_
        rintro e w6 ⟨v5, w5, g5, gx, p5, rfl, hrun5, A5, T5, S5⟩
        have HSM : Hid (Calls Try.prog 15 #[v5, .slice a0 b.length cap0] w5 fun e w' => e = .returned (.bool true) ∧ Below w5.heap.size w5 w') := sameBytes_eq b _ _ _ _ w5 A5.src S5
        clear HTK2 A5 S5
        go_wp2_with (at_builtin; refine wpList_append_run rfl _ _ 35 rfl _ _ _ w5 rfl rfl hrun5 ?_)
        refine HSM.out.mono ?_
        rintro e w7 ⟨rfl, B7⟩
        have T7 := T5.below B7
        have M7 : IsM w7 mb 5000 0 p5 := T7.isM
        clear HSM T5 B7
        go_wp2_with fail
        refine (many_len 0 r [] T7 rfl rfl).mono ?_
        rintro e w8 ⟨rfl, rfl⟩
        go_wp2_with fail
        refine (held_q mb _ _ _ _ M7).mono ?_
        rintro e w9 ⟨rfl, rfl⟩
        go_wp2_with fail
        refine (many_take 0 r [] 5 T7 rfl rfl).mono ?_
        rintro e w10 ⟨gy, rfl, y1, y2, y3, y4, y5⟩
        have hB := y3.bel
        rw [show clp 5 ([] : List UInt8).length = 0 by decide]
        go_wp2
        go_ret
        exact ⟨rfl, hB⟩

set_option maxRecDepth 100000 in
theorem lifted (os : Os) (started : os.Started) (H : Type) (enc : TypeId × Value → H) :
    ReturnsInHanded {} Try.checked os 4 .any (Rows.ringOrderSpec.pre6 enc Try.prog Try.f4 Rows.ringOrderRow.domain false) (Rows.ringOrderSpec.post enc Try.prog Try.f4 false true false false) := by
  refine returnsInHanded_of_change (C := Try.checked) own started (by kernel_rfl) Try.func4
    (ChangeSpec.witness6 (enc := enc) (C := Try.checked) false ⟨#[], #[.slice none 0 0, .slice none 0 0, .slice none 0 0], []⟩ 8 (by kernel_rfl) (by kernel_rfl) (by kernel_rfl) (by kernel_rfl)) ?_
  intro W base args ds gs before hval0 hW hcnd _
  have hval : ∀ (j : Nat) t v, Try.f4.params[j]? = some t → args[j]? = some v → Value.okWide Try.prog W .any base t v := hval0
  have hW' := hW
  obtain ⟨p, q, hA0, hV, rfl, hfz, hnd⟩ := hW
  have hA : DataW.TrodAll enc Try.prog W 0 (fun _ => true) true Try.f4.params.toList args.toList ds p := hA0
  rw [Try.params4] at hA hval
  obtain ⟨v0, vs0, d0, ds0, p0, q0, hargs, rfl, rfl, h0, r0⟩ := trodAll_cons hA
  obtain ⟨v1, vs1, d1, ds1, p1, q1, rfl, rfl, rfl, h1, r1⟩ := trodAll_cons r0
  obtain ⟨v2, vs2, d2, ds2, p2, q2, rfl, rfl, rfl, h2, r2⟩ := trodAll_cons r1
  obtain ⟨rfl, rfl, rfl⟩ := trodAll_nil r2
  obtain rfl : args = #[v0, v1, v2] := by cases args; simp_all
  obtain ⟨rfl, rfl⟩ := trodVars_none hV
  obtain ⟨a0, len0, cap0, rfl⟩ := okWide_slice Try.underlying35 (hval 0 35 v0 rfl rfl)
  obtain ⟨a1, len1, cap1, rfl⟩ := okWide_slice Try.underlying47 (hval 1 47 v1 rfl rfl)
  obtain ⟨a2, len2, cap2, rfl⟩ := okWide_slice Try.underlying47 (hval 2 47 v2 rfl rfl)
  have k0 := h0
  have k1 := h1
  have k2 := h2
  have lt0 : ∀ x ∈ p0, x.block < W.heap.size := by obtain ⟨m, hm⟩ := k0; exact DataW.trod_lt m _ _ _ hm
  have lt1 : ∀ x ∈ p1, x.block < W.heap.size := by obtain ⟨m, hm⟩ := k1; exact DataW.trod_lt m _ _ _ hm
  have lt2 : ∀ x ∈ p2, x.block < W.heap.size := by obtain ⟨m, hm⟩ := k2; exact DataW.trod_lt m _ _ _ hm
  obtain ⟨kb, b, w0, hkb⟩ := open_bytes h0
  have w1 := open_nums h1
  have w2 := open_nums h2
  clear hA0 hval0
  refine (walk kb len0 cap0 a0 b a1 len1 cap1 a2 len2 cap2 W w0 hkb w1 w2).mono fun e W' ⟨he, bel⟩ => ?_
  subst he
  exact ⟨_, rfl, _, _, _, [], _, [], hW', trodAll_mk1 (shut_bool Try.underlying4 _), (trodAll_cons_mk (Below.trod laidOut (by kernel_rfl) (of_decide_eq_true (by kernel_rfl)) k0 bel lt0) (trodAll_cons_mk (Below.trod laidOut (by kernel_rfl) (of_decide_eq_true (by kernel_rfl)) k1 bel lt1) (trodAll_cons_mk (Below.trod laidOut (by kernel_rfl) (of_decide_eq_true (by kernel_rfl)) k2 bel lt2) trodAll_mk0))), rfl, bel.frame _, fun h => by cases h⟩

theorem over : Rows.ringOrderRow.holds Try.pinned (OpenSpec.ofChange Rows.ringOrderSpec) :=
  OpenClaim.holds_of_wide 4 Try.f4 rfl rfl rfl rfl rfl rfl rfl ⟨rfl, rfl, rfl, rfl, rfl⟩ rfl rfl rfl rfl rfl (by kernel_rfl) Try.func4 (by kernel_rfl)
    (of_decide_eq_true (by kernel_rfl)) (by unfold Func.isWrapper; first | (rw [if_pos (by decide +kernel)]; kernel_rfl) | (rw [if_neg (by decide +kernel)]; exact ⟨rfl, rfl⟩))
    (fun os started H enc _ => lifted os started H enc)

end Go.Proofs.Ytdifcagmkkccoaa.ringOrder
namespace Go.Proofs.Ytdifcagmkkccoaa
/-- The statement. -/
theorem ringOrder_holds : Rows.RingOrderSaid := ringOrder.over
#print axioms ringOrder_holds
end Go.Proofs.Ytdifcagmkkccoaa
