/- ChunkBack, walked. -/
import Derived.Test.YtbmpfjmnedlahabDoorChkG
import Derived.Test.YtbmpfjmnedlahabDoorChkJ
import Derived.Test.YtbmpfjmnedlahabDoorTwo
import Derived.Test.YtbmpfjmnedlahabDoorSamB
namespace Go.Proofs.YtbmpfjmnedlahabDoor
open Go.RowKit
set_option linter.unusedVariables false

/-- A row of numbers that may be written over. -/
def IntRow (w : World) (g n : Nat) : Prop := ∃ cur, w.heap[g]? = some (.cells cur 5 (0, 0)) ∧ ∀ j, j < n → ∃ z, cur[j]? = some (.int .u8 z)
theorem IntRow.cell {w : World} {g n : Nat} (h : IntRow w g n) (j : Nat) (hj : j < n) : ∃ z, w.cell? ⟨g, j, none⟩ = some (.int .u8 z) := by
  obtain ⟨cur, h1, h2⟩ := h
  obtain ⟨z, hz⟩ := h2 j hj
  exact ⟨z, ring_cell h1 hz⟩
theorem IntRow.z {w : World} {g n : Nat} (h : IntRow w g n) (j : Nat) : w.frozen? ⟨g, j, none⟩ = false := by
  obtain ⟨cur, h1, h2⟩ := h
  exact ring_z h1
theorem IntRow.set {w : World} {g n : Nat} (h : IntRow w g n) (i : Nat) (x : Int) : IntRow (w.setCell ⟨g, i, none⟩ (.int .u8 x)) g n := by
  obtain ⟨cur, h1, h2⟩ := h
  refine ⟨cur.setIfInBounds i (.int .u8 x), ring_set h1, fun j hj => ?_⟩
  obtain ⟨z, hz⟩ := h2 j hj
  rw [Array.getElem?_setIfInBounds]
  by_cases e : i = j
  · rw [if_pos e]
    have : j < cur.size := (Array.getElem?_eq_some_iff.1 hz).1
    rw [if_pos (by omega)]
    exact ⟨x, rfl⟩
  · rw [if_neg e]; exact ⟨z, hz⟩
/-- A row of one's own may be written over. -/
theorem Own.ints {B : Nat} {w : World} {a : Option Addr} {n c : Nat} {X : List UInt8} (h : Own B w (.slice a n c) X) (hp : 0 < n) : ∃ g, a = some ⟨g, 0, none⟩ ∧ B ≤ g ∧ g < w.heap.size ∧ IntRow w g n := by
  obtain ⟨h1, ⟨h2, h3⟩ | ⟨g, c', cur, hv, hB, hg, hl, hm, hs, ht⟩⟩ := h
  · obtain ⟨_, e2, _⟩ := slice_inj h2; omega
  · obtain ⟨e1, e2, e3⟩ := slice_inj hv
    subst e1 e2 e3
    refine ⟨g, rfl, hB, heap_lt hg, cur, hg, fun j hj => ?_⟩
    have h5 : cur.toList[j]? = some (bv X[j]) := by
      have : (cur.toList.take (X.length * 1))[j]? = (rowB X)[j]? := by rw [ht]
      rw [List.getElem?_take_of_lt (by omega)] at this
      rw [this]; unfold rowB; rw [List.getElem?_map, List.getElem?_eq_getElem hj]; rfl
    exact ⟨_, by rw [← Array.getElem?_toList]; exact h5⟩

set_option maxRecDepth 100000 in
set_option maxHeartbeats 8000000 in
theorem back6_walk (kb len cap : Nat) (a : Option Addr) (b : List UInt8) (size : Int) (kc lenc capc : Nat) (ac : Option Addr) (c : List UInt8) (at_ : Int) (w : World) (hb : Src w kb (.slice a len cap) b) (hkb : 0 < b.length → kb < w.heap.size) (hsz : size ≤ 9223372036854775807) (hc : Src w kc (.slice ac lenc capc) c) (hkc : 0 < c.length → kc < w.heap.size) (hnc : ac = none → capc = 0) (hM : MaxL w) (hT : TzOk w) :
    Calls Tryd.prog 6 #[.slice a len cap, .int .i64 size, .slice ac lenc capc, .int .i64 at_] w fun e w' => e = .returned (.bool true) ∧ Below w.heap.size w w' := by
  have hlb := hb.len.1
  have hlc := hc.len.1
  go_enter Tryd.func6, Tryd.ntmps6
  go_wp2_with fail
  refine (alive6_any _ hM hT).mono ?_
  rintro e w1 ⟨rfl, B1⟩
  by_cases hlen : len ≤ 2000 ∧ lenc ≤ 2000
  · obtain ⟨g1, g2⟩ := hlen
    have i1 : (len : Int) ≤ 2000 := by omega
    have i2 : (lenc : Int) ≤ 2000 := by omega
    have HB : Hid (Src w kb (.slice a len cap) b) := hb
    have HC : Hid (Src w kc (.slice ac lenc capc) c) := hc
    have HM : Hid (MaxL w) := hM
    have HLB : Hid (b.length = len) := hlb
    have HLC : Hid (c.length = lenc) := hlc
    have HKB : Hid (0 < b.length → kb < w.heap.size) := hkb
    have HKC : Hid (0 < c.length → kc < w.heap.size) := hkc
    have HE : Hid (Calls Tryd.prog 17 #[.slice a len cap, .int .i64 size] w1 fun e w' => ∃ v', e = .returned v' ∧ Own w1.heap.size w' v' (encR size b) ∧ Below w1.heap.size w1 w') := encode_any b kb _ size w1 (hb.keep hkb B1) (fun q => Nat.lt_of_lt_of_le (hkb q) B1.size) (hT.below B1) (by omega) hsz
    have hXl := encR_len size b
    rw [hlb] at hXl
    have HD1 : Hid (decR len (encR size b ++ c) = (b, (encR size b).length, 0)) := enc_back size b c len (by omega) (by omega)
    have HD2 : Hid (∀ j, j < (encR size b).length → decR len ((encR size b).take j) = ([], 0, 0)) := fun j hj => dec_prefix len _ b (enc_back0 size b len (by omega) (by omega)) j hj
    have HD3 : Hid (0 < len → decR ((len : Int) - 1).toNat (encR size b) = ([], 0, 2)) := fun h => enc_long size b _ (by omega) (by omega)
    have HD4 : Hid (∀ m, len ≤ m → decR m (encR size b) = (b, (encR size b).length, 0)) := fun m h => enc_back0 size b m (by omega) (by omega)
    clear hb hc hlb hlc hkb hkc hM hT hsz
    generalize encR size b = X at *
    go_wp2_with fail
    refine HE.out.mono ?_
    rintro e w2 ⟨v2, rfl, O2, B2⟩
    have C2 := B1.trans (B2.mono B1.size)
    obtain ⟨a2, c2, rfl, hn2⟩ := O2.form
    obtain ⟨kx, SX, hkx0⟩ := O2.src
    have hkx : 0 < X.length → kx < w2.heap.size := fun q => (hkx0 q).2
    obtain ⟨x, hx⟩ : ∃ x, x = X.length := ⟨_, rfl⟩
    have HX : Hid (x = X.length) := hx
    rw [← hx] at hXl HD1 SX hkx O2 ⊢
    obtain ⟨v3, w3, g4, n4, c4, w4, r3, r4, S4, hg4, hg4', B4⟩ := two_src SX (by rw [← hx]; exact hkx) (HC.out.keep HKC.out C2) (fun q => Nat.lt_of_lt_of_le (HKC.out q) C2.size) hn2 hnc (by rw [← hx]; have := HLC.out; omega)
    have C4 := C2.trans (B4.mono C2.size)
    have SX4 := SX.keep (by rw [← hx]; exact hkx) B4
    have HDC : Hid (Calls Tryd.prog 14 #[.slice (some ⟨g4, 0, none⟩) n4 c4, .int .i64 (len : Int)] w4 (DecQ w4 (b, x, 0))) := by
      have h := decode_any (X ++ c) g4 _ (len : Int) w4 S4 (fun _ => hg4') (HM.out.below C4) (by rw [List.length_append]; have := HX.out; have := HLC.out; omega) (by omega)
      rw [Int.toNat_natCast, HD1.out] at h
      exact h
    have HSX4 : Hid (Src w4 kx (.slice a2 x c2) X) := SX4
    have hkx4 : kx < w4.heap.size := by have := hkx (by omega); have := B4.size; omega
    clear hx B1 B2 B4 C2 S4 SX hg4 hg4' HE hn2 hnc O2 hkx hkx0 HD1
    go_wp2_with (first | (at_builtin; refine wpList_append_run2 rfl _ _ 24 24 rfl _ _ _ w3 rfl rfl r3 ?_) | (at_builtin; refine wpList_append_run2 rfl _ _ 24 24 rfl _ _ _ w4 rfl rfl r4 ?_))
    refine HDC.out.mono ?_
    rintro e w5 ⟨v5, rfl, O5, B5⟩
    have C5 := C4.trans (B5.mono C4.size)
    simp only at O5
    obtain ⟨k5, S5, hk5⟩ := O5.src
    obtain ⟨a5, c5, rfl, hn5⟩ := O5.form
    rw [HLB.out] at O5 S5 hk5 ⊢
    have HSM : Hid (Calls Tryd.prog 16 #[.slice a5 len c5, .slice a len cap] w5 fun e w' => e = .returned (.bool true) ∧ Below w5.heap.size w5 w') := sameBytes_eq b _ _ _ _ w5 S5 (HB.out.keep HKB.out C5)
    clear S5 hk5 r3 r4 HDC SX4
    go_wp2_with fail
    refine HSM.out.mono ?_
    rintro e w6 ⟨rfl, B6⟩
    have C6 := C5.trans (B6.mono C5.size)
    have O6 := O5.keep B6
    have D6 : Below w4.heap.size w4 w6 := B5.trans (B6.mono B5.size)
    clear HSM O5 B6 B5
    have hI : Hid (0 < len → ∃ g, a5 = some ⟨g, 0, none⟩ ∧ w4.heap.size ≤ g ∧ g < w6.heap.size ∧ IntRow w6 g len) := fun q => O6.ints q
    clear O6
    have hc2 := HSX4.out.len
    unfold maxLen at hc2
    obtain ⟨t, ht, hbt0⟩ := and_mask at_ 1048575 (by decide)
    have hbt : bits BinOp.and IntKind.i64 at_ 1048575 = (t : Int) := hbt0
    clear hbt0
    obtain ⟨q, hq⟩ : ∃ q, q = t % x := ⟨_, rfl⟩
    have hqx : q < x := by rw [hq]; exact Nat.mod_lt _ (by omega)
    have hrem : ((t : Int)).tmod (x : Int) = (q : Int) := by rw [Int.tmod_eq_emod_of_nonneg (by omega), hq, Int.natCast_emod]
    have hxz : ¬ ((x : Int) = 0) := by omega
    clear hq ht
    have h1 := hc2.2.1
    have h2 := hc2.2.2
    clear hc2
    go_wp2_with fail
    go_loopw [64] (fun vi wr => ∃ k : Nat, k ≤ len ∧ vi = .int .i64 k ∧ Hid (0 < len → ∃ g, a5 = some ⟨g, 0, none⟩ ∧ w4.heap.size ≤ g ∧ IntRow wr g len) ∧ Below w4.heap.size w4 wr) (fun vi _ => len - (intOf vi).toNat)
    case atStart => exact ⟨0, Nat.zero_le _, rfl, (fun q => by obtain ⟨g, e1, e2, e3, e4⟩ := hI.out q; exact ⟨g, e1, e2, e4⟩), D6⟩
    case round =>
      obtain ⟨k, hk, rfl, hJ, hD⟩ := hrel
      clear hI D6 C6 C5
      by_cases hlt : k < len
      · obtain ⟨g, rfl, hg, hI⟩ := hJ.out (by omega)
        obtain ⟨z, hz⟩ := hI.cell k hlt
        have hfz := hI.z k
        go_wp2
        go_roundw
        case rel => exact ⟨k + 1, by omega, by go_num, (fun _ => ⟨g, rfl, hg, hI.set k _⟩), hD.setCell (p := ⟨g, k, none⟩) hg _⟩
        case measure => simp [intOf]; omega
      · have CR := C4.trans (hD.mono C4.size)
        have HMR : Hid (MaxL wr) := HM.out.below CR
        have SR : Src wr kx (.slice a2 x c2) X := HSX4.out.keepB (fun _ => hkx4) hD
        have hkr : 0 < X.length → kx < wr.heap.size := fun _ => Nat.lt_of_lt_of_le hkx4 hD.size
        have HQ2 : Hid (Calls Tryd.prog 14 #[.slice a2 q c2, .int .i64 (len : Int)] wr (DecQ wr ([], 0, 0))) := by
          have h := decode_any (X.take q) kx _ (len : Int) wr (SR.take (m := q) (by have := HX.out; omega)) (fun u => hkr (by rw [List.length_take] at u; omega)) HMR.out (by rw [List.length_take]; have := HX.out; omega) (by omega)
          rw [Int.toNat_natCast, HD2.out q (by have := HX.out; omega)] at h
          exact h
        have HSR : Hid (Src wr kx (.slice a2 x c2) X) := SR
        have HDX : Hid (∀ (W : World) (most : Int), Below wr.heap.size wr W → most ≤ 9223372036854775807 → Calls Tryd.prog 14 #[.slice a2 x c2, .int .i64 most] W (DecQ W (decR most.toNat X))) := fun W most hW hm => decode_any X kx _ most W (HSR.out.keep hkr hW) (fun u => Nat.lt_of_lt_of_le (hkr u) hW.size) (HMR.out.below hW) (by have := HX.out; omega) hm
        clear SR hD hJ
        go_wp2_with fail
        refine HQ2.out.mono ?_
        rintro e w7 ⟨v7, rfl, _, B7⟩
        have C7 := CR.trans (B7.mono CR.size)
        have H3 := HDX.out w7 ((len : Int) - 1) B7 (by omega)
        clear HQ2
        by_cases hl0 : 0 < len
        · rw [HD3.out hl0] at H3
          have HH3 : Hid (Calls Tryd.prog 14 #[.slice a2 x c2, .int .i64 ((len : Int) - 1)] w7 (DecQ w7 ([], 0, 2))) := H3
          have hl1 : (0 : Int) < (len : Int) := by omega
          clear H3
          go_wp2_with fail
          refine HH3.out.mono ?_
          rintro e w8 ⟨v8, rfl, _, B8⟩
          have C8 := C7.trans (B8.mono C7.size)
          have H4 := HDX.out w8 4611686018427387904 (B7.trans (B8.mono B7.size)) (by decide)
          rw [HD4.out _ (by show len ≤ 4611686018427387904; omega)] at H4
          have HH4 : Hid (Calls Tryd.prog 14 #[.slice a2 x c2, .int .i64 4611686018427387904] w8 (DecQ w8 (b, X.length, 0))) := H4
          clear H4 HH3
          go_wp2_with fail
          refine HH4.out.mono ?_
          rintro e w9 ⟨v9, rfl, O9, B9⟩
          have C9 := C8.trans (B9.mono C8.size)
          simp only at O9
          obtain ⟨k9, S9, _⟩ := O9.src
          obtain ⟨a9, c9, rfl, _⟩ := O9.form
          rw [HLB.out] at S9 ⊢
          have HSM : Hid (Calls Tryd.prog 16 #[.slice a9 len c9, .slice a len cap] w9 fun e w' => e = .returned (.bool true) ∧ Below w9.heap.size w9 w') := sameBytes_eq b _ _ _ _ w9 S9 (HB.out.keep HKB.out C9)
          clear S9 O9 HH4
          go_wp2_with fail
          refine HSM.out.mono ?_
          rintro e w10 ⟨rfl, B10⟩
          go_wp2
          go_ret
          exact ⟨rfl, C9.trans (B10.mono C9.size)⟩
        · obtain rfl : len = 0 := by omega
          rw [HD4.out _ (by omega)] at H3
          have HH3 : Hid (Calls Tryd.prog 14 #[.slice a2 x c2, .int .i64 (-1)] w7 (DecQ w7 (b, X.length, 0))) := H3
          clear H3
          go_wp2_with fail
          refine HH3.out.mono ?_
          rintro e w8 ⟨v8, rfl, _, B8⟩
          have C8 := C7.trans (B8.mono C7.size)
          have H4 := HDX.out w8 4611686018427387904 (B7.trans (B8.mono B7.size)) (by decide)
          rw [HD4.out _ (by omega)] at H4
          have HH4 : Hid (Calls Tryd.prog 14 #[.slice a2 x c2, .int .i64 4611686018427387904] w8 (DecQ w8 (b, X.length, 0))) := H4
          clear H4 HH3
          go_wp2_with fail
          refine HH4.out.mono ?_
          rintro e w9 ⟨v9, rfl, O9, B9⟩
          have C9 := C8.trans (B9.mono C8.size)
          simp only at O9
          obtain ⟨k9, S9, _⟩ := O9.src
          obtain ⟨a9, c9, rfl, _⟩ := O9.form
          rw [HLB.out] at S9 ⊢
          have HSM : Hid (Calls Tryd.prog 16 #[.slice a9 0 c9, .slice a 0 cap] w9 fun e w' => e = .returned (.bool true) ∧ Below w9.heap.size w9 w') := sameBytes_eq b _ _ _ _ w9 S9 (HB.out.keep HKB.out C9)
          clear S9 O9 HH4
          go_wp2_with fail
          refine HSM.out.mono ?_
          rintro e w10 ⟨rfl, B10⟩
          go_wp2
          go_ret
          exact ⟨rfl, C9.trans (B10.mono C9.size)⟩
  · have hor : (2000 : Int) < (len : Int) ∨ ((len : Int) ≤ 2000 ∧ (2000 : Int) < (lenc : Int)) := by omega
    clear hb hc hkb hkc hnc hlen hlb hlc hM hT
    rcases hor with h | ⟨h, h'⟩
    · go_wp2
      go_ret
      exact ⟨rfl, B1⟩
    · go_wp2
      go_ret
      exact ⟨rfl, B1⟩
end Go.Proofs.YtbmpfjmnedlahabDoor
