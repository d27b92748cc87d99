/- ChunkBare, walked. -/
import Derived.Test.YtbmpfjmnedlahacDoorChkG
import Derived.Test.YtbmpfjmnedlahacDoorChkU
import Derived.Test.YtbmpfjmnedlahacDoorOwnI
import Derived.Test.YtbmpfjmnedlahacDoorStp
namespace Go.Proofs.YtbmpfjmnedlahacDoor
open Go.RowKit
set_option linter.unusedVariables false

theorem own_set {B : Nat} {w : World} {v : Value} {X : List UInt8} (h : Own B w v X) (i : Nat) (hi : i < X.length) (y : UInt8) : ∃ g c, v = .slice (some ⟨g, 0, none⟩) X.length c ∧ B ≤ g ∧ g < w.heap.size ∧ w.cell? ⟨g, i, none⟩ = some (bv X[i]) ∧ w.frozen? ⟨g, i, none⟩ = false ∧ X.length ≤ c ∧ c ≤ maxLen ∧ Src (w.setCell ⟨g, i, none⟩ (bv y)) g v (X.set i y) := by
  have h0 := h
  obtain ⟨h1, ⟨h2, h3⟩ | ⟨g, c, cur, hv, hB, hg, hl, hm, hs, ht⟩⟩ := h
  · omega
  · have hcell : ∀ (j : Nat) (hj : j < X.length), w.cell? ⟨g, j, none⟩ = some (bv X[j]) := fun j hj => by
      have k := (hv ▸ h0 : w.ownsRow B 5 1 (.slice (some ⟨g, 0, none⟩) X.length c) X.length (rowB X)).cellAt j (by omega)
      rw [k]
      unfold rowB
      rw [List.getElem?_map, List.getElem?_eq_getElem hj]; rfl
    have hcur : ∀ (j : Nat) (hj : j < X.length), cur[j]? = some (bv X[j]) := fun j hj => by
      have := hcell j hj
      simpa [World.cell?, hg] using this
    refine ⟨g, c, hv, hB, heap_lt hg, hcell i hi, ring_z hg, hl, hm, ⟨some ⟨g, 0, none⟩, c, by rw [List.length_set]; exact hv, by rw [List.length_set]; exact hl, hm, fun _ => ⟨0, rfl, fun j hj => ?_⟩⟩⟩
    rw [List.length_set] at hj
    rw [Nat.zero_add]
    refine ring_cell (ring_set hg) ?_
    rw [Array.getElem?_setIfInBounds]
    have hsz : i < cur.size := (Array.getElem?_eq_some_iff.1 (hcur i hi)).1
    by_cases hij : i = j
    · subst hij
      rw [if_pos rfl, if_pos hsz]
      simp
    · rw [if_neg hij, hcur j hj, List.getElem_set_ne hij]
/-- A body that is refused. -/
theorem refd_any {w : World} {v : Value} {k : Nat} {Z : List UInt8} (hs : Src w k v Z) (hk : 0 < Z.length → k < w.heap.size) (hM : MaxL w) (hlen : Z.length ≤ 100000) (hr : Refd (decR 500 Z)) :
    Calls Tryd.prog 8 #[v, .int .i64 500] w fun e w' => ∃ v' er, e = .returned (.tuple #[v', .int .i64 0, .int .i64 er]) ∧ (er = 20 ∨ er = 30) ∧ Below w.heap.size w w' := by
  have h := decode_any Z k v 500 w hs hk hM (by omega) (by decide)
  rw [show (500 : Int).toNat = 500 from rfl] at h
  refine h.mono ?_
  rintro e w' ⟨v', rfl, _, B⟩
  refine ⟨v', _, ?_, hr.2, B⟩
  rw [hr.1]
  rfl

set_option maxRecDepth 100000 in
set_option maxHeartbeats 8000000 in
theorem bare6_walk (kb len cap : Nat) (a : Option Addr) (b : List UInt8) (n0 wh : Int) (fi : Bool) (w : World) (hb : Src w kb (.slice a len cap) b) (hkb : 0 < b.length → kb < w.heap.size) (hM : MaxL w) (hT : TzOk w) :
    Calls Tryd.prog 5 #[.slice a len cap, .int .i64 n0, .int .i64 wh, .bool fi] w fun e w' => e = .returned (.bool true) ∧ Below w.heap.size w w' := by
  have hlb := hb.len.1
  obtain ⟨z, hz31, hbz0⟩ := and_mask n0 31 (by decide)
  have hbz : bits BinOp.and IntKind.i64 n0 31 = (z : Int) := hbz0
  obtain ⟨t, ht, hbt0⟩ := and_mask wh 1023 (by decide)
  have hbt : bits BinOp.and IntKind.i64 wh 1023 = (t : Int) := hbt0
  clear hbz0 hbt0
  go_enter Tryd.func5, Tryd.ntmps5
  go_wp2_with fail
  refine (alive6_any _ hM hT).mono ?_
  rintro e w1 ⟨rfl, B1⟩
  by_cases hlen : len ≤ 200
  · have i1 : (len : Int) ≤ 200 := by omega
    by_cases hl0 : len = 0
    · subst hl0
      clear hb hkb hM hT hlb
      go_wp2
      go_ret
      exact ⟨rfl, B1⟩
    · have i2 : ((len : Int) == 0) = false := by simp; omega
      have i3 : ¬ (200 : Int) < (len : Int) := by omega
      obtain ⟨sz, hsz⟩ : ∃ sz, sz = 1 + z := ⟨_, rfl⟩
      have hw1 : IntKind.i64.wrap (1 + (z : Int)) = (sz : Int) := by rw [IntKind.wrap_i64]; omega
      have HM : Hid (MaxL w) := hM
      have HLB : Hid (b.length = len) := hlb
      have HE : Hid (Calls Tryd.prog 10 #[.slice a len cap, .int .i64 (sz : Int)] w1 fun e w' => ∃ v', e = .returned v' ∧ Own w1.heap.size w' v' (encR (sz : Int) b) ∧ Below w1.heap.size w1 w') := encode_any b kb _ (sz : Int) w1 (hb.keep hkb B1) (fun q => Nat.lt_of_lt_of_le (hkb q) B1.size) (hT.below B1) (by omega) (by omega)
      have hXl := encR_len (sz : Int) b
      rw [hlb] at hXl
      have HXE : Hid (encR (sz : Int) b = encC (b.length + 1) sz b ++ [48, 13, 10, 13, 10]) := by
        rw [Hid, encR_eq, show (max (sz : Int) 1).toNat = sz by omega]
      generalize encR (sz : Int) b = X at *
      have hs1 : 1 ≤ sz := by omega
      have hs2 : sz ≤ 32 := by omega
      clear hb hlb hkb hM hT hsz
      go_wp2_with fail
      refine HE.out.mono ?_
      rintro e w2 ⟨v2, rfl, O2, B2⟩
      have C2 := B1.trans (B2.mono B1.size)
      obtain ⟨kx, SX, hkx⟩ := O2.src
      obtain ⟨a2, c2, rfl, hn2⟩ := O2.form
      have hcl := SX.len
      obtain ⟨x, hx⟩ : ∃ x, x = X.length := ⟨_, rfl⟩
      have SX0 := SX
      obtain ⟨a', c', e', _, _, hcells⟩ := SX
      obtain ⟨e1, _, e3⟩ := slice_inj e'
      subst e1 e3
      obtain ⟨off, rfl, hc⟩ := hcells (by omega)
      rw [← hx] at hXl hcl SX0 ⊢
      have HSX : Hid (Src w2 kx (.slice (some ⟨kx, off, none⟩) x c2) X) := SX0
      clear SX0
      have hx1 := hcl.2.1
      have hx2 := hcl.2.2
      unfold maxLen at hx2
      have HX : Hid (X.length = x) := hx.symm
      have HC : Hid (∀ (j : Nat) (hj : j < X.length), w2.cell? ⟨kx, off + j, none⟩ = some (bv X[j])) := hc
      have HKX : Hid (kx < w2.heap.size) := (hkx (by omega)).2
      have HC2 : Hid (Below w.heap.size w w2) := C2
      have HT0 : Hid (OwnI w2.heap.size (w2.alloc (.cells #[] 3)) (.slice (some ⟨w2.heap.size, 0, none⟩) 0 0) []) := OwnI.empty _ _ (Nat.le_refl _)
      clear hcl hc hkx hn2 O2 HE hx C2 B2 B1 e'
      have HI0 : Hid (BInv X sz len 0 (len + 1) [] [] b []) := by have h := BInv.start X sz b HXE.out; rw [HLB.out] at h; exact h
      have i4 : (0 : Int) < (len : Int) := by omega
      go_wp2_with fail
      go_loopw [10, 11, 12] (fun ve va vl wr => ∃ (k f p r : Nat) (pre want rest : List UInt8) (es : List Nat), p ≤ x ∧ r ≤ len ∧ va = .int .i64 p ∧ vl = .int .i64 r ∧ Hid (pre.length = p) ∧ Hid (rest.length = r) ∧ Hid (BInv X sz len k f pre want rest es) ∧ Hid (OwnI w2.heap.size wr ve es) ∧ Hid (Below w2.heap.size w2 wr)) (fun _ _ vl _ => (intOf vl).toNat)
      case atStart => exact ⟨0, len + 1, 0, len, [], [], b, [], Nat.zero_le _, Nat.le_refl _, rfl, rfl, rfl, HLB, HI0, HT0, (Below.refl _ _).alloc (Nat.le_refl _) _⟩
      case round =>
        obtain ⟨k, f, p, r, pre, want, rest, es, hp, hr, rfl, rfl, hPL, hRL, hI, hO, hB⟩ := hrel
        clear HI0 HT0
        by_cases hr0 : 0 < r
        · obtain ⟨n, hn⟩ : ∃ n, n = min sz r := ⟨_, rfl⟩
          obtain ⟨f', T, hX1, hX2, hI2⟩ := hI.out.step (by rw [hRL.out]; exact hr0) hs1 hs2 hlen n (by rw [hRL.out]; exact hn)
          rw [hPL.out, HX.out] at hX2
          rw [hPL.out] at hI2
          have hmin : min (r : Int) (sz : Int) = (n : Int) := by omega
          have hpl := plain_dig _ (hexT_all n)
          obtain ⟨h, hh⟩ : ∃ h, h = (hexT n).length := ⟨_, rfl⟩
          rw [← hh] at hX2 hI2
          have HX1 : Hid (X = pre ++ (hexT n ++ 13 :: 10 :: T)) := hX1
          have HH : Hid (h = (hexT n).length) := hh
          have HI2 : Hid (BInv X sz len (k + 1) f' (pre ++ (hexT n ++ [13, 10] ++ rest.take n ++ [13, 10])) (want ++ rest.take n) (rest.drop n) (es ++ [p + h, p + h + 2 + n])) := hI2
          have HPL2 : Hid (plain (hexT n) = true) := hpl
          have hn1 : 1 ≤ n := by omega
          have hnr : n ≤ r := by omega
          clear hX1 hh hI2 hpl hn hI
          have hr0' : (0 : Int) < (r : Int) := by omega
          go_wp2_with fail
          go_loopw [11] (fun va wx => ∃ j : Nat, j ≤ h ∧ va = .int .i64 ((p + j : Nat) : Int) ∧ wx = wr) (fun va _ => p + h - (intOf va).toNat)
          case atStart => exact ⟨0, Nat.zero_le _, rfl, rfl⟩
          case round =>
            obtain ⟨j, hj, rfl, rfl⟩ := hrel
            obtain ⟨q, hq⟩ : ∃ q, q = p + j := ⟨_, rfl⟩
            have hqX : q < X.length := by rw [HX.out]; omega
            have hcell := (hB.out.cell (p := ⟨kx, off + q, none⟩) HKX.out).trans (HC.out q hqX)
            have hqx : q < x := by omega
            have hby := line_bytes HX1.out HPL2.out j (by rw [← HH.out]; exact hj) q (by rw [hPL.out]; exact hq) hqX
            rw [← HH.out] at hby
            have bd := byte_bd X[q]
            unfold bv at hcell
            rw [← hq]
            have HQ : Hid (q = p + j) := hq
            clear hq
            by_cases hjh : j < h
            · have hne : ((X[q].toNat : Int) != 13) = true := by
                have := hby.1 hjh
                simp
                intro c
                exact this (UInt8.toNat_inj.1 (by show X[q].toNat = 13; omega))
              clear hby
              generalize (X[q].toNat : Int) = y at *
              go_wp2_with fail
              go_roundw
              case rel => exact ⟨j + 1, by omega, by have := HQ.out; go_num, trivial⟩
              case measure => have := HQ.out; simp [intOf]; omega
            · have hjh2 : j = h := by omega
              have hne : ((X[q].toNat : Int) != 13) = false := by
                have := hby.2 hjh2
                rw [this]; rfl
              clear hby
              generalize (X[q].toNat : Int) = y at *
              have g1 : IntKind.i64.wrap ((q : Int) + 2) = (q : Int) + 2 := by rw [IntKind.wrap_i64]; omega
              obtain ⟨v5, w5, r5, O5, B5⟩ := ownI_two hO.out hB.out.size q (q + 2 + n) (by have := HI2.out.2.2.2.2.2.2.1; rw [List.length_append] at this; omega)
              go_wp2_with (at_builtin; refine wpList_append_run2 rfl _ _ 33 33 rfl _ _ _ w5 rfl rfl r5 ?_)
              go_roundw
              case rel =>
                have hQ := HQ.out
                have hN : (rest.take n).length = n := by rw [List.length_take, hRL.out]; omega
                refine ⟨k + 1, f', q + 2 + n + 2, r - n, _, _, _, _, by omega, by omega, congrArg (Value.int .i64) (by omega), congrArg (Value.int .i64) (by omega), ?_, ?_, HI2, ?_, hB.out.trans B5⟩
                · rw [Hid]
                  simp only [List.length_append, List.length_cons, List.length_nil, hN, hPL.out, ← HH.out]
                  omega
                · rw [Hid, List.length_drop, hRL.out]
                · rw [show p + h = q by omega]; exact O5
              case measure => simp [intOf]; omega
        · obtain rfl : r = 0 := by omega
          have hes : 0 < es.length := hI.out.2.2.2.2.2.2.2 (by rw [hRL.out]; omega)
          have hbare := hI.out.2.2.2.2.2.1
          have hesl : es.length ≤ 400 := by have := hI.out.2.2.2.2.2.2.1; omega
          obtain ⟨g, c, rfl, hcl⟩ := hO.out.at hes
          obtain ⟨m, hm⟩ : ∃ m, m = es.length := ⟨_, rfl⟩
          obtain ⟨ix, hix⟩ : ∃ ix, ix = t % m := ⟨_, rfl⟩
          have hixm : ix < es.length := by rw [hix, ← hm]; exact Nat.mod_lt _ (by omega)
          have hce := hcl ix hixm
          have hbe := hbare es[ix] (List.getElem_mem hixm)
          unfold iv at hce
          generalize es[ix] = e at *
          have hrem : ((t : Int)).tmod (m : Int) = (ix : Int) := by rw [Int.tmod_eq_emod_of_nonneg (by omega), hix, Int.natCast_emod]
          have hnz : ¬ ((m : Int) = 0) := by omega
          rw [← hm] at hes hesl hixm ⊢
          have hex : e + 1 < x := by have := hbe.1; rw [HX.out] at this; exact this
          have HBE : Hid (Bare X e) := hbe
          have HCL : Hid (w2.heap.size ≤ wr.heap.size) := hB.out.size
          clear hI hbare hcl hm hix hbe hO hPL hRL
          have f1 : IntKind.i64.wrap ((e : Int) + 1) = (e : Int) + 1 := by rw [IntKind.wrap_i64]; omega
          have f2 : (0 : Int) ≤ (e : Int) + 1 := by omega
          have f3 : (e : Int) + 1 ≤ (x : Int) := by omega
          have f4 : (e : Int) ≤ (x : Int) := by omega
          have f5 : (e : Int) ≤ (c2 : Int) := by omega
          have f6 : ((e : Int) + 1).toNat = e + 1 := by omega
          have HB1 : Hid (Below w2.heap.size w2 ((wr.alloc (.cells #[] 5)).drew)) := (hB.out.alloc hB.out.size _).drew
          have HOE : Hid (Own w2.heap.size ((wr.alloc (.cells #[] 5)).drew) (.slice (some ⟨wr.heap.size, 0, none⟩) 0 0) []) := (Own.empty w2.heap.size wr hB.out.size).keep (Below.refl _ _).drew
          have HS1 : Hid (Src ((wr.alloc (.cells #[] 5)).drew) kx (.slice (some ⟨kx, off, none⟩) e c2) (X.take e)) := (HSX.out.keepB (fun _ => HKX.out) HB1.out).take (by rw [HX.out]; omega)
          have HS2 : Hid (∀ W, Below w2.heap.size ((wr.alloc (.cells #[] 5)).drew) W → Src W kx (.slice (if c2 = e + 1 then some ⟨kx, off, none⟩ else some ⟨kx, off + (e + 1), none⟩) (x - (e + 1)) (c2 - (e + 1))) (X.drop (e + 1))) := fun W hW => by rw [if_neg (by omega)]; exact ((HSX.out.keepB (fun _ => HKX.out) HB1.out).keepB (fun _ => HKX.out) hW).cut (by rw [HX.out]; omega) (fun _ => by simp [addr_add])
          have HNI : Hid ((if c2 = e + 1 then some (⟨kx, off, none⟩ : Addr) else some ⟨kx, off + (e + 1), none⟩) = none → c2 - (e + 1) = 0) := fun q => by rw [if_neg (by omega)] at q; cases q
          have HM1 : Hid (([] : List UInt8).length + (X.take e).length ≤ 140737488355328) := by rw [Hid, List.length_take, HX.out]; show 0 + _ ≤ _; omega
          have HM2 : Hid (([] ++ X.take e).length + (X.drop (e + 1)).length ≤ 140737488355328) := by rw [Hid, List.nil_append, List.length_take, List.length_drop, HX.out]; omega
          go_wp2_with fail
          go_region_held3 (fun _ => True) (go_keep) (first | (refine step_own rfl _ _ rfl rfl w2.heap.size _ [] rfl HOE.out kx _ _ _ (X.take e) rfl HS1.out (fun q => by cases q) HM1.out HB1.out.size ?_; intro v6 w6 O6 B6) | (refine step_own rfl _ _ rfl rfl w2.heap.size _ _ rfl O6 kx _ _ _ (X.drop (e + 1)) rfl (HS2.out _ B6) HNI.out HM2.out (HB1.out.trans B6).size ?_; intro v7 w7 O7 B7))
          all_goals
            rw [List.nil_append] at O7
            have HZ : Hid (Own w2.heap.size w7 v7 (X.take e ++ X.drop (e + 1))) := O7
            have hD7 : Below w2.heap.size w2 w7 := HB1.out.trans (B6.trans B7)
            have C7 : Below w.heap.size w w7 := HC2.out.trans (hD7.mono HC2.out.size)
            have hxl := HX.out
            cases fi
            · obtain ⟨k7, S7, hk7⟩ := HZ.out.src
              have HD : Hid (Calls Tryd.prog 8 #[v7, .int .i64 500] w7 fun e w' => ∃ v' er, e = .returned (.tuple #[v', .int .i64 0, .int .i64 er]) ∧ (er = 20 ∨ er = 30) ∧ Below w7.heap.size w7 w') := refd_any S7 (fun q => (hk7 q).2) (HM.out.below C7) (by rw [List.length_append, List.length_take, List.length_drop]; omega) HBE.out.2.1
              clear O7 B6 B7 O6 S7 hk7 hD7 hce hxl HZ
              go_wp2_with fail
              refine HD.out.mono ?_
              rintro e' w8 ⟨v8, er, rfl, her, B8⟩
              have C8 := C7.trans (B8.mono C7.size)
              clear HD
              rcases her with rfl | rfl
              all_goals
                go_wp2
                go_ret
                exact ⟨rfl, C8⟩
            · have BA : Below w2.heap.size w2 (w7.alloc (.cells #[] 5)) := hD7.alloc hD7.size _
              obtain ⟨v8, w8, r8, O8, B8⟩ := own_append (Own.empty w2.heap.size w7 hD7.size) (HSX.out.keepB (fun _ => HKX.out) BA) (fun q => by cases q) (by show 0 + _ ≤ _; omega) BA.size
              rw [List.nil_append] at O8
              obtain ⟨g8, c8, rfl, hg1, hg2, hcell, hfz, hl8, hm8, S8⟩ := own_set O8 (e + 1) (by omega) 120
              have C8 : Below w.heap.size w w8 := HC2.out.trans ((BA.trans B8).mono HC2.out.size)
              have C9 : Below w.heap.size w (w8.setCell ⟨g8, e + 1, none⟩ (.int .u8 120)) := C8.setCell (p := ⟨g8, e + 1, none⟩) (Nat.le_trans HC2.out.size hg1) _
              have S9 : Src (w8.setCell ⟨g8, e + 1, none⟩ (.int .u8 120)) g8 (.slice (some ⟨g8, 0, none⟩) X.length c8) (X.set (e + 1) 120) := S8
              have HD0 := refd_any S9 (fun _ => by simpa [World.setCell] using hg2) (HM.out.below C9) (by rw [List.length_set]; omega) HBE.out.2.2
              unfold bv at hcell
              unfold maxLen at hm8
              generalize ((X[e + 1]).toNat : Int) = y at *
              rw [hxl] at HD0 r8 hl8
              have HD : Hid (Calls Tryd.prog 8 #[.slice (some ⟨g8, 0, none⟩) x c8, .int .i64 500] (w8.setCell ⟨g8, e + 1, none⟩ (.int .u8 120)) fun e' w' => ∃ v' er, e' = .returned (.tuple #[v', .int .i64 0, .int .i64 er]) ∧ (er = 20 ∨ er = 30) ∧ Below (w8.setCell ⟨g8, e + 1, none⟩ (.int .u8 120)).heap.size (w8.setCell ⟨g8, e + 1, none⟩ (.int .u8 120)) w') := HD0
              have HC9 : Hid (Below w.heap.size w (w8.setCell ⟨g8, e + 1, none⟩ (.int .u8 120))) := C9
              clear O7 B6 B7 O6 hD7 hce hxl HZ HD0 S8 S9 O8 B8 BA C8 C7 C9
              go_wp2_with (at_builtin; refine wpList_append_run2 rfl _ _ 25 25 rfl _ _ _ w8 rfl rfl r8 ?_)
              refine HD.out.mono ?_
              rintro e' w9 ⟨v9, er, rfl, her, B9⟩
              have C8 := HC9.out.trans (B9.mono HC9.out.size)
              clear HD
              rcases her with rfl | rfl
              all_goals
                go_wp2
                go_ret
                exact ⟨rfl, C8⟩
  · have i1 : (200 : Int) < (len : Int) := by omega
    clear hb hkb hM hT hlb
    go_wp2
    go_ret
    exact ⟨rfl, B1⟩
end Go.Proofs.YtbmpfjmnedlahacDoor
